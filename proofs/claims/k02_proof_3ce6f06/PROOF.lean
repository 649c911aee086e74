import PyProof.Rows.All
import Wide.All
import OpenK.AllK
import Wide.FinOn
import HandS.ForMost
import HandS.Walk
import HandS.Zip
import KE.GoesEnum
import HandS.Wide
import HandS.IsInst
import HandS.Codes
import HandS.TupAny
import HandS.TupMul
import HandS.Conv
import HandS.Flow
import PyProof.TypeEq
import PyProof.InstEq
import PyProof.TypeOfCall
import HandS.ForExc
import HandS.FStr
import HandS.Small
import HandS.ExcIs
import HandS.Property
import PySem.Challenge.RW_loopwords_k02_programs
set_option Elab.async false
set_option linter.all false
set_option maxRecDepth 100000
set_option maxHeartbeats 4000000
/-! zip of a list or a tuple with a list or a tuple; enumerate of a list or a tuple. -/
namespace LW
open PySem PySem.Spec PyProof.Rows L2

/-- true: a tuple; false: a list -/
def Sd (K : PySem.W.Frag) : Bool → Hp → Addr → List V → Prop
  | true, H, a, xs => SqT K H a xs
  | false, H, a, xs => SqL K H a xs
def SdIt : Bool → Heap → Addr → Addr → Nat → Prop
  | true, h, it, a, i => h.IsTupleIter it a i
  | false, h, it, a, i => h.IsListIter it a i
def SdAt : Bool → Heap → Addr → Array Value → Prop
  | true, h, a, its => h.IsTuple a its
  | false, h, a, its => h.IsList a its
def sdObj : Bool → Addr → Obj
  | true, a => { cls := .type "tuple_iterator", data := .fields #[.ref a, .int 0 0] }
  | false, a => { cls := .type "list_iterator", data := .fields #[.ref a, .int 0 0] }

theorem sd_begins (b : Bool) (a : Addr) (its : Array Value) : Begins (.ref a) (sdObj b a) (fun h => SdAt b h a its) := by
  cases b with
  | true => exact begins_tuple a its
  | false => exact begins_list a its
theorem sd_draws {prog : Program} {w : World} {A : Around} (b : Bool) (hh : A.handled = none) (it a : Addr) (hne : a ≠ it) (its : Array Value) :
    Draws prog w A it [it, a] its.size (fun i v => its[i]? = some v) (fun i h => SdIt b h it a i ∧ SdAt b h a its) := by
  cases b with
  | true => exact Draws.tuple hh it a hne its
  | false => exact Draws.list hh it a hne its
theorem sd_it0 {b : Bool} {h : Heap} {it a : Addr} (e : h.get? it = some (sdObj b a)) : SdIt b h it a 0 := by
  cases b with
  | true => exact ⟨_, e, rfl, rfl⟩
  | false => exact ⟨_, e, rfl, rfl⟩
theorem sd_live {b : Bool} {h : Heap} {it a : Addr} {i : Nat} (s : SdIt b h it a i) : ∃ o, h.get? it = some o ∧ ∀ v, o.data ≠ .cell v := by
  cases b with
  | true =>
    obtain ⟨o, e, _, d⟩ := s
    exact ⟨o, e, fun v z => by rw [d] at z; cases z⟩
  | false =>
    obtain ⟨o, e, _, d⟩ := s
    exact ⟨o, e, fun v z => by rw [d] at z; cases z⟩
theorem sd_over {b : Bool} {h h' : Heap} {it a : Addr} {i : Nat} (s : SdIt b h it a i) (k : ∀ o, h.get? it = some o → h'.get? it = some o) : SdIt b h' it a i := by
  cases b with
  | true => exact Heap.IsTupleIter.at s k
  | false => exact Heap.IsListIter.at s k
theorem sd_data {X : Cx} {pins : List (Addr × Obj)} {σ : L2.St} {H : Hp} {s : Shared} {b : Bool} {a : Addr} {xs : List V} (I : Inv X pins σ H s) (q : Sd X.K b H a xs) :
    ∃ its : List Value, Vals xs its ∧ SdAt b s.heap a its.toArray ∧ a < s.heap.objs.size := by
  cases b with
  | true =>
    obtain ⟨its, rv, p, _⟩ := I.tuple q
    obtain ⟨o, ho, _⟩ := id p
    exact ⟨its, rv, p, Heap.lt_size ho⟩
  | false =>
    obtain ⟨its, rv, p, _⟩ := I.list q
    exact ⟨its, rv, p.isList, p.lt⟩
theorem sd_inj {X : Cx} {pins : List (Addr × Obj)} {σ : L2.St} {H : Hp} {s : Shared} {b : Bool} {a : Addr} {xs ys : List V} (I : Inv X pins σ H s) (q : Sd X.K b H a xs) (q' : Sd X.K b H a ys) : xs = ys := by
  cases b with
  | true => exact I.tuple_inj q q'
  | false => exact I.list_inj q q'

/-! ### zip -/
def ItZ (K : PySem.W.Frag) (b1 b2 : Bool) (a c : Addr) : It :=
  ⟨fun i H => ∃ (xs ys : List V) (x y : V), Sd K b1 H a xs ∧ Sd K b2 H c ys ∧ xs[i]? = some x ∧ ys[i]? = some y,
    fun i H v H' => ∃ T x y, v = .ref T ∧ H T = none ∧ H' = upd H T (.tup [x, y]) ∧ (∀ xs, Sd K b1 H a xs → xs[i]? = some x) ∧ ∀ ys, Sd K b2 H c ys → ys[i]? = some y,
    fun i H => ∃ xs ys : List V, Sd K b1 H a xs ∧ Sd K b2 H c ys ∧ i ≤ xs.length ∧ i ≤ ys.length ∧ (xs.length = i ∨ ys.length = i)⟩
/-- the zip's five cells lie apart from one another and from what is zipped -/
structure Apart5 (z TI TO i1 i2 a c : Addr) : Prop where
  sep : ZipSep2 z TI TO i1 i2 [i1, a] [i2, c]
  a1 : a ≠ i1
  c2 : c ≠ i2
theorem apart_new {n a c : Nat} (ha : a < n) (hc : c < n) : Apart5 (n + 4) (n + 2) (n + 3) n (n + 1) a c :=
  ⟨zip_sep2 (N := n) (fp1 := [a]) (fp2 := [c]) (fun b hb => by rw [List.mem_singleton.mp hb]; exact ha) (fun b hb => by rw [List.mem_singleton.mp hb]; exact hc),
    fun e => by have e' : (a : Nat) = n := e; omega, fun e => by have e' : (c : Nat) = n + 1 := e; omega⟩
def ZSt (b1 b2 : Bool) (z TI TO i1 i2 a c : Addr) (i : Nat) (h : Heap) : Prop :=
  IsZip h z TI TO .none ∧ IsTupOf2 h TI (.ref i1) (.ref i2) ∧ (∃ x y, IsTupOf2 h TO x y) ∧ SdIt b1 h i1 a i ∧ SdIt b2 h i2 c i
theorem five {z TI TO i1 i2 c : Addr} (h : c ∈ [z, TI, TO, i1, i2]) : c = z ∨ c = TI ∨ c = TO ∨ c = i1 ∨ c = i2 := by simpa using h
theorem turnZ {P : Program} {w : World} {K : PySem.W.Frag} {elts : List Expr} {kk : Nat} {tpos : Pos} {b1 b2 : Bool} {a c z TI TO i1 i2 : Addr} (D : Apart5 z TI TO i1 i2 a c) :
    Turn P w K (.Tuple elts kk tpos) (ItZ K b1 b2 a c) [z, TI, TO, i1, i2] z (ZSt b1 b2 z TI TO i1 i2 a c) where
  mem := List.mem_cons_self ..
  obj := by
    intro i h st d hd
    obtain ⟨qz, qI, ⟨x, y, qO⟩, q1, q2⟩ := st
    rcases five hd with rfl | rfl | rfl | rfl | rfl
    · exact ⟨_, qz, fun v q => nomatch q⟩
    · exact ⟨_, qI, fun v q => nomatch q⟩
    · exact ⟨_, qO, fun v q => nomatch q⟩
    · exact sd_live q1
    · exact sd_live q2
  keep := by
    intro i h h' st k
    obtain ⟨qz, qI, ⟨x, y, qO⟩, q1, q2⟩ := st
    exact ⟨k z (by simp) _ qz, k TI (by simp) _ qI, ⟨x, y, k TO (by simp) _ qO⟩, sd_over q1 fun o e => k i1 (by simp) o e, sd_over q2 fun o e => k i2 (by simp) o e⟩
  item := by
    intro X hP hw hK hc i pins s σ H E I hf st hg
    subst hP hw hK
    obtain ⟨qz, qI, ⟨x0, y0, qO⟩, q1, q2⟩ := st
    obtain ⟨xs, ys, x, y, hqx, hqy, hx, hy⟩ := hg
    obtain ⟨us, rv, d1, la⟩ := sd_data I hqx
    obtain ⟨ws, rv2, d2, lc⟩ := sd_data I hqy
    obtain ⟨u, hu, ru⟩ := rv.get hx
    obtain ⟨u2, hu2, ru2⟩ := rv2.get hy
    have h1 : i < us.toArray.size := by
      obtain ⟨q, _⟩ := List.getElem?_eq_some_iff.mp hu
      simpa using q
    have h2 : i < ws.toArray.size := by
      obtain ⟨q, _⟩ := List.getElem?_eq_some_iff.mp hu2
      simpa using q
    have zl : z < s.heap.objs.size := Heap.lt_size qz
    refine wpAny_pyNext_zipD2_item D.sep (sd_draws (prog := X.prog) (w := X.w) (A := X.A.in1) b1 (I.ok.hd hc) i1 a D.a1 us.toArray) (sd_draws (prog := X.prog) (w := X.w) (A := X.A.in1) b2 (I.ok.hd hc) i2 c D.c2 ws.toArray) qz qI qO ⟨q1, d1⟩ ⟨q2, d2⟩ h1 h2 fun v1 v2 h' tk e1 e2 z' O' n1 n2 T' hsz hk => ?_
    have ev1 : v1 = u := Option.some.inj (e1.symm.trans (by simpa using hu))
    have ev2 : v2 = u2 := Option.some.inj (e2.symm.trans (by simpa using hu2))
    subst ev1 ev2
    refine ⟨_, rfl, wpAny_letOwnedTupleGo_zip (s := { s with heap := h', toks := tk }) z' fun h'' z'' sb => ?_⟩
    have hT2 : h''.get? s.heap.objs.size = some { cls := .type "tuple", data := .seq #[v1, v2] } := (sb.2 _ (Nat.ne_of_gt zl)).trans T'
    have new : ObjOk X.prog X.w (upd H s.heap.objs.size (.tup [x, y])) h'' s.heap.objs.size (.tup [x, y]) :=
      ⟨by show 2 ≤ sizeLine; decide, [v1, v2], .cons ru (.cons ru2 .nil), ⟨_, hT2, rfl, _, rfl⟩⟩
    have I1 : Inv X pins σ (upd H s.heap.objs.size (.tup [x, y])) { s with heap := h'', toks := tk } :=
      I.turnedNew (t' := tk) (ch := [z, TI, TO, i1, i2]) (fun d o nd q => by
        have nn : d ≠ z ∧ d ≠ TI ∧ d ≠ TO ∧ d ≠ i1 ∧ d ≠ i2 := by simpa using nd
        exact (sb.2 d nn.1).trans (hk d o nn.1 nn.2.2.1 nn.2.2.2.1 nn.2.2.2.2 q)) hf (Nat.le_refl _) new
    refine ⟨.ref s.heap.objs.size, _, I1, rfl, ⟨_, x, y, rfl, I.hok.fresh (Nat.le_refl _), rfl, fun l hl => by rw [sd_inj I hl hqx]; exact hx, fun l hl => by rw [sd_inj I hl hqy]; exact hy⟩,
      ⟨z'', (sb.2 _ D.sep.TIz).trans (hk _ _ D.sep.TIz D.sep.TITO D.sep.TIi1 D.sep.TIi2 qI), ⟨v1, v2, (sb.2 _ D.sep.TOz).trans O'⟩,
        sd_over n1.1 fun o q => (sb.2 _ fun e => D.sep.zf1 (by rw [← e]; exact D.sep.mem1)).trans q, sd_over n2.1 fun o q => (sb.2 _ fun e => D.sep.zf2 (by rw [← e]; exact D.sep.mem2)).trans q⟩, fun d hd => ?_⟩
    have dl : d < s.heap.objs.size := by
      rcases five hd with rfl | rfl | rfl | rfl | rfl
      · exact zl
      · exact Heap.lt_size qI
      · exact Heap.lt_size qO
      · obtain ⟨_, e, _⟩ := sd_live q1
        exact Heap.lt_size e
      · obtain ⟨_, e, _⟩ := sd_live q2
        exact Heap.lt_size e
    rw [upd_ne (Nat.ne_of_lt dl)]
    exact (hf d hd).1
  done := by
    intro X hP hw hK hc i pins s σ H E I hf st hg
    subst hP hw hK
    obtain ⟨qz, qI, ⟨x0, y0, qO⟩, q1, q2⟩ := st
    obtain ⟨xs, ys, hqx, hqy, l1, l2, hend⟩ := hg
    obtain ⟨us, rv, d1, la⟩ := sd_data I hqx
    obtain ⟨ws, rv2, d2, lc⟩ := sd_data I hqy
    have m1 := rv.length
    have m2 := rv2.length
    refine wpAny_pyNext_zipD2_end D.sep (sd_draws (prog := X.prog) (w := X.w) (A := X.A.in1) b1 (I.ok.hd hc) i1 a D.a1 us.toArray) (sd_draws (prog := X.prog) (w := X.w) (A := X.A.in1) b2 (I.ok.hd hc) i2 c D.c2 ws.toArray) qz qI qO ⟨q1, d1⟩ ⟨q2, d2⟩ (by simp; omega) (by simp; omega) (by simp; omega) fun h' tk hk => ⟨rfl, ?_⟩
    exact I.turnedL (t' := tk) (ch := [z, TI, TO, i1, i2]) (fun d o nd q => by
      have nn : d ≠ z ∧ d ≠ TI ∧ d ≠ TO ∧ d ≠ i1 ∧ d ≠ i2 := by simpa using nd
      exact hk d o nn.1 nn.2.2.1 nn.2.2.2.1 nn.2.2.2.2 q) hf
  self := fun A i s Q E st h => wpAny_pyIter_zip st.1 h
def iZ (K : PySem.W.Frag) (ta : TA) (b1 b2 : Bool) : TI := fun σ H R => ta σ H fun vs H1 => ∃ a c xs ys, vs = [.ref a, .ref c] ∧ Sd K b1 H1 a xs ∧ Sd K b2 H1 c ys ∧ R (ItZ K b1 b2 a c) H1
theorem piZ {X : Cx} {e e2 : Expr} {ta : TA} {p pos tpos : Pos} {elts : List Expr} {kk : Nat} (b1 b2 : Bool) (hg : Gl X "zip") (hm : X.mg "zip" = none) (ha : PA X [e, e2] ta)
    (hs : starEach [e, e2] X.env = (false, eval e X.env) :: starEach [e2] X.env := by rfl) (hpl : (backTo pos (starEach [e2] X.env)).any (·.1) = false := by rfl) :
    PI X (.Tuple elts kk tpos) (.Call (.Name "zip" p) [e, e2] [] pos) (iZ X.K ta b1 b2) := by
  constructor
  intro pins s σ H R I h
  refine Call_ (ld_blt I hg hm PyProof.Rows.boot_zip (PyProof.Rows.callWith_type1 (thn (ha.run pos pins s σ H _ I h) fun us s1 hyp => ?_) hs hpl))
  obtain ⟨vs, H1, I1, r1, a, c, xs, ys, rfl, hqx, hqy, q⟩ := hyp
  match us, r1 with
  | [_, _], .cons rfl (.cons rfl .nil) =>
    obtain ⟨us, rv, d1, la⟩ := sd_data I1 hqx
    obtain ⟨ws, rv2, d2, lc⟩ := sd_data I1 hqy
    refine zip_begins2 (sd_begins b1 a us.toArray) (sd_begins b2 c ws.toArray) d1 d2 fun h' hz hTI hTO h1 h2 hsz hk => wpAny_pyIter_zip hz ?_
    refine ⟨s1.heap.objs.size + 4, [s1.heap.objs.size + 4, s1.heap.objs.size + 2, s1.heap.objs.size + 3, s1.heap.objs.size, s1.heap.objs.size + 1], _, _, H1, rfl, I1.kept (t' := s1.toks) hk,
      turnZ (b1 := b1) (b2 := b2) (apart_new la lc), ⟨hz, hTI, ⟨_, _, hTO⟩, sd_it0 h1, sd_it0 h2⟩, fun d hd => ?_, q⟩
    have hle : s1.heap.objs.size ≤ d := by
      rcases five hd with z | z | z | z | z <;> rw [z]
      · exact Nat.le_add_right _ _
      · exact Nat.le_add_right _ _
      · exact Nat.le_add_right _ _
      · exact Nat.le_refl _
      · exact Nat.le_add_right _ _
    exact I1.fpOk hle (I1.hok.fresh hle)
theorem walkZ {K : PySem.W.Frag} {b1 b2 : Bool} {a c : Addr} {xs ys : List V} {n : Nat} (hn : n = min xs.length ys.length) :
    Walk (ItZ K b1 b2 a c) n (fun H => Sd K b1 H a xs ∧ Sd K b2 H c ys) (YPair (fun i => xs[i]?) (fun i => ys[i]?)) := by
  subst hn
  refine ⟨fun i _ hi q => ?_, fun _ q => ⟨xs, ys, q.1, q.2, by omega, by omega, by omega⟩, fun i H v H' _ q y => ?_⟩
  · have h1 : i < xs.length := by omega
    have h2 : i < ys.length := by omega
    exact ⟨xs, ys, xs[i], ys[i], q.1, q.2, by simp [h1], by simp [h2]⟩
  · obtain ⟨T, x, z, e1, e2, e3, e4, e5⟩ := y
    exact ⟨T, x, z, e1, e2, e3, e4 xs q.1, e5 ys q.2⟩

/-! ### enumerate -/
def ItE (K : PySem.W.Frag) (b : Bool) (a : Addr) : It :=
  ⟨fun i H => ∃ (xs : List V) (x : V), Sd K b H a xs ∧ xs[i]? = some x,
    fun i H v H' => ∃ T x, v = .ref T ∧ H T = none ∧ H' = upd H T (.tup [.int (i : Nat), x]) ∧ ∀ xs, Sd K b H a xs → xs[i]? = some x,
    fun i H => ∃ xs : List V, Sd K b H a xs ∧ xs.length = i⟩
def ESt (b : Bool) (e it a : Addr) (i : Nat) (h : Heap) : Prop := (∃ old, IsEnum h e it (i : Int) old) ∧ SdIt b h it a i
theorem turnE {P : Program} {w : World} {K : PySem.W.Frag} {elts : List Expr} {kk : Nat} {tpos : Pos} {b : Bool} {a e it : Addr} (ne : e ≠ it) (nea : e ≠ a) (nia : a ≠ it) :
    Turn P w K (.Tuple elts kk tpos) (ItE K b a) [e, it] e (ESt b e it a) where
  mem := List.mem_cons_self ..
  obj := by
    intro i h st d hd
    obtain ⟨⟨old, qe⟩, q1⟩ := st
    have hd' : d = e ∨ d = it := by simpa using hd
    rcases hd' with rfl | rfl
    · exact ⟨_, qe, fun v q => nomatch q⟩
    · exact sd_live q1
  keep := by
    intro i h h' st k
    obtain ⟨⟨old, qe⟩, q1⟩ := st
    exact ⟨⟨old, k e (by simp) _ qe⟩, sd_over q1 fun o z => k it (by simp) o z⟩
  item := by
    intro X hP hw hK hc i pins s σ H E I hf st hg
    subst hP hw hK
    obtain ⟨⟨old, qe⟩, q1⟩ := st
    obtain ⟨xs, x, hqx, hx⟩ := hg
    obtain ⟨us, rv, d1, la⟩ := sd_data I hqx
    obtain ⟨u, hu, ru⟩ := rv.get hx
    have h1 : i < us.toArray.size := by
      obtain ⟨q, _⟩ := List.getElem?_eq_some_iff.mp hu
      simpa using q
    have el : e < s.heap.objs.size := Heap.lt_size qe
    refine wpAny_pyNext_enum_itemC (sd_draws (prog := X.prog) (w := X.w) (A := X.A.in1) b (I.ok.hd hc) it a nia us.toArray) qe ⟨q1, d1⟩ h1 ne (by simp [ne, nea]) fun v h' tk e1 o' n1 T' hsz hk => ?_
    have ev : v = u := Option.some.inj (e1.symm.trans (by simpa using hu))
    subst ev
    refine ⟨_, rfl, wpAny_letOwnedTupleGo_enum (s := { s with heap := h', toks := tk + 1 }) o' fun h'' e'' sb => ?_⟩
    have hT2 : h''.get? s.heap.objs.size = some { cls := .type "tuple", data := .seq #[.int i tk, v] } := (sb.2 _ (Nat.ne_of_gt el)).trans T'
    have new : ObjOk X.prog X.w (upd H s.heap.objs.size (.tup [.int (i : Nat), x])) h'' s.heap.objs.size (.tup [.int (i : Nat), x]) :=
      ⟨by show 2 ≤ sizeLine; decide, [.int i tk, v], .cons ⟨_, rfl⟩ (.cons ru .nil), ⟨_, hT2, rfl, _, rfl⟩⟩
    have I1 : Inv X pins σ (upd H s.heap.objs.size (.tup [.int (i : Nat), x])) { s with heap := h'', toks := tk + 1 } :=
      I.turnedNew (t' := tk + 1) (ch := [e, it]) (fun d o nd q => by
        have nn : d ≠ e ∧ d ≠ it := by simpa using nd
        exact (sb.2 d nn.1).trans (hk d o nn.1 nn.2 q)) hf (Nat.le_refl _) new
    refine ⟨.ref s.heap.objs.size, _, I1, rfl, ⟨_, x, rfl, I.hok.fresh (Nat.le_refl _), rfl, fun l hl => by rw [sd_inj I hl hqx]; exact hx⟩,
      ⟨⟨v, ?_⟩, sd_over n1.1 fun o q => (sb.2 _ (Ne.symm ne)).trans q⟩, fun d hd => ?_⟩
    · have e1 : ((i + 1 : Nat) : Int) = (i : Int) + 1 := by omega
      rw [e1]
      exact e''
    · have dl : d < s.heap.objs.size := by
        have hd' : d = e ∨ d = it := by simpa using hd
        rcases hd' with rfl | rfl
        · exact el
        · obtain ⟨_, z, _⟩ := sd_live q1
          exact Heap.lt_size z
      rw [upd_ne (Nat.ne_of_lt dl)]
      exact (hf d hd).1
  done := by
    intro X hP hw hK hc i pins s σ H E I hf st hg
    subst hP hw hK
    obtain ⟨⟨old, qe⟩, q1⟩ := st
    obtain ⟨xs, hqx, l1⟩ := hg
    obtain ⟨us, rv, d1, la⟩ := sd_data I hqx
    have m1 := rv.length
    have ei : i = us.toArray.size := by simp; omega
    subst ei
    refine wpAny_pyNext_enum_endD (sd_draws (prog := X.prog) (w := X.w) (A := X.A.in1) b (I.ok.hd hc) it a nia us.toArray) qe ⟨q1, d1⟩ fun h' hk => ⟨rfl, ?_⟩
    exact I.turnedL (t' := s.toks) (ch := [e, it]) (fun d o nd q => by
      have nn : d ≠ e ∧ d ≠ it := by simpa using nd
      exact hk d o nn.2 q) hf
  self := fun A i s Q E st h => let ⟨⟨_, he⟩, _⟩ := st; wpAny_pyIter_enum he h
theorem meets_enum1 {v : Value} {o : Obj} {G : Heap → Prop} (B : Begins v o G) (hv : ∀ x t, v ≠ .str x t) :
    Meets (Builtin.«enumerate.__new__» ⟨[.type "enumerate", v], []⟩) (fun _ R s => G s.heap ∧
      R (.ok (.ret (.ref (s.heap.push o).objs.size))) { s with heap := (s.heap.push o).push { cls := .type "enumerate", data := .fields #[.none, .bool false, .ref s.heap.objs.size, rawInt 0, .none, .none] } }) :=
  .of_wp fun prog w A R s h => by
    obtain ⟨hp, g, d, tk, os⟩ := s
    obtain ⟨h1, h⟩ := h
    have subE := sub_enumerate
    have step : ∀ {A' : Around} {E : Value → Shared → Prop} {Q : Value → Shared → Prop}, Q (.ref hp.objs.size) ⟨hp.push o, g, d, tk, os⟩ → wpAny (model prog w) A' (pyIter v) Q E ⟨hp, g, d, tk, os⟩ :=
      fun q => B.iter prog w _ _ ⟨hp, g, d, tk, os⟩ _ h1 q
    wp_walk using step
    refine wpAny_stack_any fun st => wpAny_pure ?_
    split
    · rename_i c _ _ _ _ _
      cases (c == Value.type "enumerate") <;> (wp_walk using step; exact ⟨_, rfl, h⟩)
    · wp_walk using step
      exact ⟨_, rfl, h⟩
theorem enum_starts {prog : Program} {w : World} {A : Around} {E : Value → Shared → Prop} {s : Shared} {v : Value} {o : Obj} {G : Heap → Prop} {Q : Value → Shared → Prop} (B : Begins v o G) (hv : ∀ x t, v ≠ .str x t) (h1 : G s.heap)
    (h : ∀ h', IsEnum h' (s.heap.objs.size + 1) s.heap.objs.size 0 .none → h'.get? s.heap.objs.size = some o → (∀ b u, s.heap.get? b = some u → h'.get? b = some u) → Q (.ref (s.heap.objs.size + 1)) { s with heap := h' }) :
    wpAny (model prog w) A (call (.type "enumerate") [v]) Q E s := by
  refine callType_new F.called_enumerate (by decide) (F.typeCall_enumerate_1 _) (F.newCall_enumerate_1 _) (fun obj => F.args_object_init_2 obj _) F.entry_enumerate_new
    (meets_enum1 B hv) ⟨h1, ?_⟩
  have hz : (s.heap.push o).objs.size = s.heap.objs.size + 1 := Heap.size_push ..
  show _ ∧ _
  rw [hz]
  have he := Heap.get?_push_size (s.heap.push o) (o := { cls := .type "enumerate", data := .fields #[.none, .bool false, .ref s.heap.objs.size, rawInt 0, .none, .none] }) rfl
  rw [hz] at he
  exact ⟨⟨_, he, rfl⟩, h _ he (Heap.get?_push_of_some _ (Heap.get?_push_size _ B.free)) fun b u x => Heap.get?_push_of_some _ (Heap.get?_push_of_some _ x)⟩
def iE (K : PySem.W.Frag) (ta : TA) (b : Bool) : TI := fun σ H R => ta σ H fun vs H1 => ∃ a xs, vs = [.ref a] ∧ Sd K b H1 a xs ∧ R (ItE K b a) H1
theorem piE {X : Cx} {e : Expr} {ta : TA} {p pos tpos : Pos} {elts : List Expr} {kk : Nat} (b : Bool) (hg : Gl X "enumerate") (hm : X.mg "enumerate" = none) (ha : PA X [e] ta) (hs : starEach [e] X.env = [(false, eval e X.env)] := by rfl) :
    PI X (.Tuple elts kk tpos) (.Call (.Name "enumerate" p) [e] [] pos) (iE X.K ta b) := by
  constructor
  intro pins s σ H R I h
  refine Call_ (ld_blt I hg hm boot_enumerate (PyProof.Rows.callWith_type1 (thn (ha.run pos pins s σ H _ I h) fun us s1 hyp => ?_) hs rfl))
  obtain ⟨vs, H1, I1, r1, a, xs, rfl, hqx, q⟩ := hyp
  match us, r1 with
  | [_], .cons rfl .nil =>
    obtain ⟨us, rv, d1, la⟩ := sd_data I1 hqx
    refine enum_starts (sd_begins b a us.toArray) (fun _ _ z => by cases z) d1 fun h' he hi hk => wpAny_pyIter_enum he ?_
    refine ⟨s1.heap.objs.size + 1, [s1.heap.objs.size + 1, s1.heap.objs.size], _, _, H1, rfl, I1.kept (t' := s1.toks) hk,
      turnE (b := b) (a := a) (Nat.succ_ne_self _) (Nat.ne_of_gt (Nat.lt_succ_of_lt la)) (Nat.ne_of_lt la), ⟨⟨.none, he⟩, sd_it0 hi⟩, fun d hd => ?_, q⟩
    have hd' : d = s1.heap.objs.size + 1 ∨ d = s1.heap.objs.size := by simpa using hd
    have hle : s1.heap.objs.size ≤ d := by
      rcases hd' with z | z <;> rw [z]
      · exact Nat.le_add_right _ _
      · exact Nat.le_refl _
    exact I1.fpOk hle (I1.hok.fresh hle)
theorem walkE {K : PySem.W.Frag} {b : Bool} {a : Addr} {xs : List V} :
    Walk (ItE K b a) xs.length (fun H => Sd K b H a xs) (YPair (fun i => some (.int (i : Nat))) (fun i => xs[i]?)) := by
  refine ⟨fun i _ hi q => ⟨xs, xs[i], q, by simp [hi]⟩, fun _ q => ⟨xs, q, rfl⟩, fun i H v H' _ q y => ?_⟩
  obtain ⟨T, x, e1, e2, e3, e4⟩ := y
  exact ⟨T, .int (i : Nat), x, e1, e2, e3, rfl, e4 xs q⟩
end LW

namespace LW
open PySem PySem.Spec PyProof.Rows L2

/-- the built-in names that the texts use are still the built-in ones -/
structure Bl (mg : Str → Option Value) : Prop where
  len : mg "len" = none
  range : mg "range" = none
  zip : mg "zip" = none
  enumerate : mg "enumerate" = none
  sum : mg "sum" = none
  all : mg "all" = none
  tuple : mg "tuple" = none
  list : mg "list" = none
  isinstance : mg "isinstance" = none
  int : mg "int" = none
  bool : mg "bool" = none
  str : mg "str" = none
  type : mg "type" = none

theorem tupS {K : PySem.W.Frag} {H H' : Hp} {a : Addr} {xs : List V} (e : Same H H') (h : SqT K H a xs) : SqT K H' a xs := by
  rcases h with (h | ⟨o, h⟩) | h
  · exact .inl (.inl (e _ _ h))
  · exact .inl (.inr ⟨o, e _ _ h⟩)
  · exact .inr h
theorem sameNew {H : Hp} {p : Addr} {o : HO} (h : H p = none) : Same H (upd H p o) := fun b x e => by
  rw [upd_ne (ne_of_none e h)]
  exact e
/-- H0 is kept though an object that it does not know changes -/
theorem sameMut {H0 H : Hp} {p : Addr} {o : HO} (s : Same H0 H) (h : H0 p = none) : Same H0 (upd H p o) := fun b x e => by
  rw [upd_ne (ne_of_none e h)]
  exact s b x e

/-! ### sums -/
abbrev Sm := List Int × Int
/-- at v stands the sum s -/
def SumIn (K : PySem.W.Frag) (H : Hp) (v : V) (s : Sm) : Prop := ∃ a t, v = .ref a ∧ SqT K H a [.ref t, .int s.2] ∧ SqT K H t (s.1.map V.int)
theorem SumIn.mono {K : PySem.W.Frag} {H H' : Hp} {v : V} {s : Sm} (e : Same H H') (h : SumIn K H v s) : SumIn K H' v s := by
  obtain ⟨a, t, rfl, h1, h2⟩ := h
  exact ⟨a, t, rfl, tupS e h1, tupS e h2⟩
def dot : List Int → List Int → Int
  | a :: r, b :: t => a * b + dot r t
  | _, _ => 0
def val (s : Sm) (xs : List Int) : Int := s.2 + dot s.1 xs
/-- below 2 ^ n in size -/
def Wd (n : Nat) (i : Int) : Prop := i.natAbs < 2 ^ n
theorem Wd.mono {n m : Nat} {i : Int} (h : Wd n i) (l : n ≤ m) : Wd m i := Nat.lt_of_lt_of_le h (Nat.pow_le_pow_right (by decide) l)
theorem Wd.mulOk {n m : Nat} {i j : Int} (h : Wd n i) (h' : Wd m j) (a : 0 < n) (b : 0 < m) (l : n + m ≤ 1000000) : CMulW i j := wide_mul h h' a b l
theorem Wd.mul {n m : Nat} {i j : Int} (h : Wd n i) (h' : Wd m j) : Wd (n + m) (i * j) := wide_lt h h'
theorem Wd.add {n : Nat} {i j : Int} (h : Wd n i) (h' : Wd n j) : Wd (n + 1) (i + j) := by
  have a : i.natAbs < 2 ^ n := h
  have b : j.natAbs < 2 ^ n := h'
  show (i + j).natAbs < 2 ^ (n + 1)
  rw [Nat.pow_succ]
  omega

/-- zipped lists of ints -/
theorem dot_take {a b : List Int} {i : Nat} {x y : Int} (ha : a[i]? = some x) (hb : b[i]? = some y) : dot (a.take (i + 1)) (b.take (i + 1)) = dot (a.take i) (b.take i) + x * y := by
  induction a generalizing b i with
  | nil => simp at ha
  | cons p r ih =>
    cases b with
    | nil => simp at hb
    | cons q t =>
      cases i with
      | zero =>
        simp at ha hb
        subst ha hb
        simp [dot]
      | succ i =>
        have e := ih (b := t) (i := i) (by simpa using ha) (by simpa using hb)
        simp only [List.take_succ_cons, dot]
        rw [e]
        omega

/-! ### comprehensions that fill a list -/
/-- tuples (and what is locked) stand as they stood -/
def TS (H H' : Hp) : Prop := ∀ a, (∀ xs, H a = some (.tup xs) → H' a = some (.tup xs)) ∧ ∀ o u, H a = some (.frz o u) → H' a = some (.frz o u)
theorem TS.refl (H : Hp) : TS H H := fun _ => ⟨fun _ h => h, fun _ _ h => h⟩
theorem TS.trans {H H1 H2 : Hp} (a : TS H H1) (b : TS H1 H2) : TS H H2 := fun c => ⟨fun xs h => (b c).1 xs ((a c).1 xs h), fun o u h => (b c).2 o u ((a c).2 o u h)⟩
theorem tsOf {H H' : Hp} (e : Same H H') : TS H H' := fun a => ⟨fun _ h => e a _ h, fun _ _ h => e a _ h⟩
theorem tsLst {H : Hp} {D : Addr} {xs ys : List V} (h : H D = some (.lst xs)) : TS H (upd H D (.lst ys)) := fun a => by
  by_cases e : a = D
  · subst e
    exact ⟨fun _ q => (by rw [h] at q; cases q), fun _ _ q => (by rw [h] at q; cases q)⟩
  · exact ⟨fun _ q => by rw [upd_ne e]; exact q, fun _ _ q => by rw [upd_ne e]; exact q⟩
theorem tsTup {K : PySem.W.Frag} {H H' : Hp} {a : Addr} {xs : List V} (e : TS H H') (h : SqT K H a xs) : SqT K H' a xs := by
  rcases h with (h | ⟨o, h⟩) | h
  · exact .inl (.inl ((e a).1 _ h))
  · exact .inl (.inr ⟨o, (e a).2 _ _ h⟩)
  · exact .inr h
theorem tsSum {K : PySem.W.Frag} {H H' : Hp} {v : V} {s : Sm} (e : TS H H') (h : SumIn K H v s) : SumIn K H' v s := by
  obtain ⟨a, t, rfl, h1, h2⟩ := h
  exact ⟨a, t, rfl, tsTup e h1, tsTup e h2⟩
def Stable (R : Nat → V → Hp → Prop) : Prop := ∀ j y H H', TS H H' → R j y H → R j y H'
/-- i items made, each as R says, H0 kept -/
def Made (H0 : Hp) (D : Addr) (R : Nat → V → Hp → Prop) (i : Nat) (H : Hp) : Prop :=
  ∃ ys : List V, ys.length = i ∧ H D = some (.lst ys) ∧ Same H0 H ∧ ∀ j y, ys[j]? = some y → R j y H
theorem made0 {H0 : Hp} {D : Addr} {R : Nat → V → Hp → Prop} (h : H0 D = none) : Made H0 D R 0 (upd H0 D (.lst [])) :=
  ⟨[], rfl, upd_same, sameNew h, fun j y e => by simp at e⟩
theorem Made.push {H0 H H4 : Hp} {D : Addr} {R : Nat → V → Hp → Prop} {i : Nat} {y : V} (m : Made H0 D R i H) (hD : H0 D = none) (st : Stable R) (hi : i < 100000) (e : Same H H4) (r : R i y H4) :
    ∃ acc, H4 D = some (.lst acc) ∧ acc.length < sizeLine ∧ Made H0 D R (i + 1) (upd H4 D (.lst (acc ++ [y]))) := by
  obtain ⟨ys, rfl, h1, h2, h3⟩ := m
  have h4 : H4 D = some (.lst ys) := e _ _ h1
  refine ⟨ys, h4, Nat.lt_of_lt_of_le hi (by decide), ys ++ [y], by simp, upd_same, sameMut (Same.trans h2 e) hD, fun j z hz => ?_⟩
  have t : TS H4 (upd H4 D (.lst (ys ++ [y]))) := tsLst h4
  by_cases hj : j < ys.length
  · rw [List.getElem?_append_left hj] at hz
    exact st _ _ _ _ (TS.trans (tsOf e) t) (h3 j z hz)
  · rw [List.getElem?_append_right (by omega)] at hz
    have hz' : j - ys.length = 0 := by
      cases q : j - ys.length with
      | zero => rfl
      | succ n => rw [q] at hz; simp at hz
    rw [hz'] at hz
    have ez : y = z := by simpa using hz
    have ej : j = ys.length := by omega
    subst ez ej
    exact st _ _ _ _ t r
theorem Made.same {H0 H : Hp} {D : Addr} {R : Nat → V → Hp → Prop} {i : Nat} (m : Made H0 D R i H) : Same H0 H := by
  obtain ⟨_, _, _, h, _⟩ := m
  exact h
/-- items that are ints told by a function -/
def RI (f : Nat → Int) : Nat → V → Hp → Prop := fun j y _ => y = .int (f j)
theorem stRI (f : Nat → Int) : Stable (RI f) := fun _ _ _ _ _ h => h
theorem madeRI {H0 H : Hp} {D : Addr} {f : Nat → Int} {n : Nat} (m : Made H0 D (RI f) n H) : H D = some (.lst (((List.range n).map f).map V.int)) ∧ Same H0 H := by
  obtain ⟨ys, e, h1, h2, h3⟩ := m
  refine ⟨?_, h2⟩
  rw [h1]
  congr 2
  apply List.ext_getElem?
  intro j
  by_cases hj : j < n
  · have hl : j < ys.length := by omega
    have q := h3 j ys[j] (List.getElem?_eq_getElem hl)
    rw [List.getElem?_eq_getElem hl, q]
    simp [hj]
  · rw [List.getElem?_eq_none (by omega), List.getElem?_eq_none (by simp; omega)]
/-- items that are ints with a property -/
def RP (p : Nat → Int → Prop) : Nat → V → Hp → Prop := fun j y _ => ∃ i, y = .int i ∧ p j i
theorem stRP (p : Nat → Int → Prop) : Stable (RP p) := fun _ _ _ _ _ h => h
theorem madeRP {H0 H : Hp} {D : Addr} {p : Nat → Int → Prop} {n : Nat} (m : Made H0 D (RP p) n H) : ∃ ns : List Int, ns.length = n ∧ H D = some (.lst (ns.map V.int)) ∧ Same H0 H ∧ ∀ (j : Nat) (i : Int), ns[j]? = some i → p j i := by
  obtain ⟨ys, e, h1, h2, h3⟩ := m
  have key : ∀ (l : List V) (k : Nat), (∀ j y, l[j]? = some y → ∃ i, y = .int i ∧ p (k + j) i) → ∃ ns : List Int, l = ns.map V.int ∧ ∀ (j : Nat) (i : Int), ns[j]? = some i → p (k + j) i := by
    intro l
    induction l with
    | nil => exact fun k _ => ⟨[], rfl, fun j i h => by simp at h⟩
    | cons y r ih =>
      intro k h
      obtain ⟨i, e1, p1⟩ := h 0 y rfl
      obtain ⟨ns, e2, p2⟩ := ih (k + 1) fun j z hz => by
        have q := h (j + 1) z (by simpa using hz)
        rw [show k + 1 + j = k + (j + 1) by omega]
        exact q
      refine ⟨i :: ns, by rw [e1, e2]; rfl, fun j z hz => ?_⟩
      cases j with
      | zero =>
        have : i = z := by simpa using hz
        subst this
        exact p1
      | succ j =>
        have q := p2 j z (by simpa using hz)
        rw [show k + (j + 1) = k + 1 + j by omega]
        exact q
  obtain ⟨ns, rfl, hp⟩ := key ys 0 fun j y hy => by
    obtain ⟨i, q1, q2⟩ := h3 j y hy
    exact ⟨i, q1, by rw [Nat.zero_add]; exact q2⟩
  refine ⟨ns, by simpa using e, h1, h2, fun j i h => ?_⟩
  have q := hp j i h
  rwa [Nat.zero_add] at q

theorem dot_sum (a b : List Int) (h : a.length = b.length) : dot a b = ((List.range a.length).map fun i => (a[i]?.getD 0) * (b[i]?.getD 0)).sum := by
  induction a generalizing b with
  | nil => rfl
  | cons x r ih =>
    cases b with
    | nil => simp at h
    | cons y t =>
      have e := ih t (by simpa using h)
      rw [List.length_cons, List.range_succ_eq_map, List.map_cons, List.sum_cons, List.map_map]
      simp only [dot, e]
      congr 1

/-! ### targets within a comprehension: without defaults, so that what is wanted is known first -/
theorem pgN {X : Cx} {i : Nat} {x : Str} {pos : Pos} (hN : X.N.Nodup) (hi : X.N[i]? = some x) (hx : Loc X.env.scope x) (hf : X.fn x = true ∨ X.env.scope.names.lookup x = some .local) : PG X (.Name x pos) (gName i) := pg_name hN hi hx hf
theorem pgT2 {X : Cx} {K : PySem.W.Frag} {e1 e2 : Expr} {k : Nat} {pos : Pos} {t u : TG} (hK : X.K = K) (h1 : PG X e1 t) (h2 : PG X e2 u) (hc : X.calm = true)
    (a : (assignEach [e1, e2] X.env).map (·.2) = assign e1 X.env :: (assignEach [e2] X.env).map (·.2)) (b : (assignEach [e2] X.env).map (·.2) = assign e2 X.env :: (assignEach [] X.env).map (·.2))
    (hn : (assignEach [e1, e2] X.env).length = 2) (hst : (assignEach [e1, e2] X.env).findIdx? (·.1) = none) : PG X (.Tuple [e1, e2] k pos) (gTup K 2 (gCons t (gCons u gNil))) := by
  subst hK
  exact pg_tup hc (pgs_cons h1 (pgs_cons h2 pgs_nil b) a) hn hst

/-! ### the rules with the written part named -/
section
variable {X : Cx} {K : PySem.W.Frag}
def rLenK (K : PySem.W.Frag) : List V → Hp → VK → Prop := fun xs H Q => ∃ p ys, xs = [.ref p] ∧ (SqL K H p ys ∨ SqT K H p ys) ∧ Q (.int (ys.length : Nat)) H
def rListK (K : PySem.W.Frag) : List V → Hp → VK → Prop := fun xs H Q => ∃ p ys, xs = [.ref p] ∧ (SqL K H p ys ∨ SqT K H p ys) ∧ ∀ l, H l = none → Q (.ref l) (upd H l (.lst ys))
def rTupK (K : PySem.W.Frag) : List V → Hp → VK → Prop := fun xs H Q => ∃ p ys, xs = [.ref p] ∧ ((SqL K H p ys ∧ ∀ l, H l = none → Q (.ref l) (upd H l (.tup ys))) ∨ (SqT K H p ys ∧ Q (.ref p) H))
theorem kLen (h : X.K = K) : CallR X (.builtin "len") (rLenK K) := by subst h; exact call_len_seq
theorem kList (h : X.K = K) : CallR X (.type "list") (rListK K) := by subst h; exact call_list_of
theorem kTup (h : X.K = K) : CallR X (.type "tuple") (rTupK K) := by subst h; exact call_tuple_of
theorem kSum (h : X.K = K) (hc : X.calm = true) : CallR X (.builtin "sum") (rSum K) := by subst h; exact cr_sum hc
theorem kAll (h : X.K = K) (hc : X.calm = true) : CallR X (.builtin "all") (rAll K) := by subst h; exact cr_all hc
theorem kIsi (h : X.K = K) : CallR X (.builtin "isinstance") (rIsi K) := by subst h; exact call_isi
theorem kIxL (h : X.K = K) : IxR X (rIxL K) := by subst h; exact ix_list
theorem kIxT (h : X.K = K) : IxR X (rIxT K) := by subst h; exact ix_tup
theorem kSlL (h : X.K = K) : SlR X (rSlL K) := by subst h; exact sl_list
theorem kSlT (h : X.K = K) : SlR X (rSlA K) := by subst h; exact sl_tupA
theorem kCatT (h : X.K = K) : OpR X (binaryOp .Add) (rCatA K) := by subst h; exact op_catA
theorem kRepT (h : X.K = K) : OpR X (binaryOp .Mult) (rRepT K) := by subst h; exact op_repT
theorem kIn (h : X.K = K) : OpR X (compareOp .In) (rIn K false) := by subst h; exact op_in_seq
theorem kNotIn (h : X.K = K) : OpR X (compareOp .NotIn) (rIn K true) := by subst h; exact op_notIn_seq
theorem kEqD (h : X.K = K) (hu : X.A.units + 64 < cLine) : OpR X (compareOp .Eq) (rEqD K) := by subst h; exact op_eqD hu
theorem kNeD (h : X.K = K) (hu : X.A.units + 64 < cLine) : OpR X (compareOp .NotEq) (rNeD K) := by subst h; exact op_neD hu
theorem kList_ {tg l : Expr} {tl : TE} (h : X.K = K) (hl : PE X l tl) : PI X tg l (iList K tl) := by subst h; exact pi_list hl
theorem kTup_ {tg l : Expr} {tl : TE} (h : X.K = K) (hl : PE X l tl) : PI X tg l (iTup K tl) := by subst h; exact pi_tup hl
theorem kZ {e e2 : Expr} {ta : TA} {p pos tpos : Pos} {elts : List Expr} {kk : Nat} (h : X.K = K) (b1 b2 : Bool) (hg : Gl X "zip") (hm : X.mg "zip" = none) (ha : PA X [e, e2] ta)
    (hs : starEach [e, e2] X.env = (false, eval e X.env) :: starEach [e2] X.env := by rfl) (hpl : (backTo pos (starEach [e2] X.env)).any (·.1) = false := by rfl) :
    PI X (.Tuple elts kk tpos) (.Call (.Name "zip" p) [e, e2] [] pos) (iZ K ta b1 b2) := by subst h; exact piZ b1 b2 hg hm ha hs hpl
theorem kE {e : Expr} {ta : TA} {p pos tpos : Pos} {elts : List Expr} {kk : Nat} (h : X.K = K) (b : Bool) (hg : Gl X "enumerate") (hm : X.mg "enumerate" = none) (ha : PA X [e] ta) (hs : starEach [e] X.env = [(false, eval e X.env)] := by rfl) :
    PI X (.Tuple elts kk tpos) (.Call (.Name "enumerate" p) [e] [] pos) (iE K ta b) := by subst h; exact piE b hg hm ha hs
theorem kT2 {e1 e2 : Expr} {k : Nat} {pos : Pos} {t u : TG} (h : X.K = K) (hc : X.calm = true) (h1 : PG X e1 t) (h2 : PG X e2 u)
    (a : (assignEach [e1, e2] X.env).map (·.2) = assign e1 X.env :: (assignEach [e2] X.env).map (·.2) := by rfl) (b : (assignEach [e2] X.env).map (·.2) = assign e2 X.env :: (assignEach [] X.env).map (·.2) := by rfl)
    (hn : (assignEach [e1, e2] X.env).length = 2 := by rfl) (hst : (assignEach [e1, e2] X.env).findIdx? (·.1) = none := by rfl) : PG X (.Tuple [e1, e2] k pos) (gTup K 2 (gCons t (gCons u gNil))) := by
  subst h
  exact pg_tup hc (pgs_cons h1 (pgs_cons h2 pgs_nil b) a) hn hst
theorem kApp (h : X.K = K) {o : Expr} {es : List Expr} {e : Expr} {to : TE} {t : TA} {apos cpos : Pos} (ho : PE X o to) (ha : PA X [e] t) (hh : PE X (.Call (.Attribute o "append" apos) [e] [] cpos) (tBM X.K "list" rAppend to t)) : PE X (.Call (.Attribute o "append" apos) [e] [] cpos) (tBM K "list" rAppend to t) := by subst h; exact hh
end

theorem mapAt {ns : List Int} {i : Nat} {x : V} (e : (ns.map V.int)[i]? = some x) (h : i < ns.length) : x = .int ns[i] := by
  rw [List.getElem?_map, List.getElem?_eq_getElem h] at e
  exact (Option.some.inj e).symm
theorem intAt {ns : List Int} {i : Nat} (h : i < ns.length) : (ns.map V.int)[i]? = some (.int ns[i]) := by
  rw [List.getElem?_map, List.getElem?_eq_getElem h]
  rfl

theorem lcYes {σ : L2.St} {H : Hp} {A B : Hp → Prop} (h : A H) : tYes σ H (fun b H3 => if b = true then A H3 else B H3) := by
  show (if true = true then A H else B H)
  exact iteT h

theorem tyTup {K : PySem.W.Frag} {H : Hp} {a : Addr} {xs : List V} (h : SqT K H a xs) : TyX K H (.ref a) (.type "tuple") := by
  rcases h with (h | ⟨o, h⟩) | ⟨o, its, n, h, hc, _⟩
  · exact .base (.tup h)
  · exact .fTuple h
  · exact .kTuple h hc
theorem tyLst {K : PySem.W.Frag} {H : Hp} {a : Addr} {xs : List V} (h : SqL K H a xs) : TyX K H (.ref a) (.type "list") := by
  rcases h with (h | ⟨o, h⟩) | ⟨o, its, n, h, hc, _⟩
  · exact .base (.lst h)
  · exact .base (.frz h)
  · exact .kList h hc

/-- the list of values vs: the sums ss -/
def SumsIn (K : PySem.W.Frag) (H : Hp) (vs : List V) (ss : List Sm) : Prop := Paired (SumIn K H) vs ss
theorem SumsIn.len {K : PySem.W.Frag} {H : Hp} {vs : List V} {ss : List Sm} (h : SumsIn K H vs ss) : vs.length = ss.length := Paired.length h
theorem sumsAt {K : PySem.W.Frag} {H : Hp} : ∀ {vs : List V} {ss : List Sm} {i : Nat} {v : V} (_ : SumsIn K H vs ss) (_ : vs[i]? = some v), ∃ s, ss[i]? = some s ∧ SumIn K H v s
  | _, _, _, _, .nil, e => by simp at e
  | _, _, 0, _, .cons r _, e => by
    simp at e
    subst e
    exact ⟨_, rfl, r⟩
  | _, _, i + 1, v, .cons _ t, e => by
    obtain ⟨s, h1, h2⟩ := sumsAt (i := i) t (by simpa using e)
    exact ⟨s, by simpa using h1, h2⟩
theorem tsSums {K : PySem.W.Frag} {H H' : Hp} (e : TS H H') {vs : List V} {ss : List Sm} (h : SumsIn K H vs ss) : SumsIn K H' vs ss := Paired.mapP h fun _ _ r => tsSum e r

/-! ### bounds -/
theorem dotWd {n m : Nat} : ∀ {a b : List Int}, (∀ x ∈ a, Wd n x) → (∀ y ∈ b, Wd m y) → Wd (n + m + a.length) (dot a b)
  | [], _, _, _ => by
    show (0 : Int).natAbs < _
    exact Nat.two_pow_pos _
  | _ :: _, [], _, _ => by
    show (0 : Int).natAbs < _
    exact Nat.two_pow_pos _
  | x :: r, y :: t, h, h' => by
    have ih := dotWd (a := r) (b := t) (fun z hz => h z (List.mem_cons_of_mem _ hz)) (fun z hz => h' z (List.mem_cons_of_mem _ hz))
    exact Wd.add (n := n + m + r.length) (Wd.mono (Wd.mul (h x (List.mem_cons_self ..)) (h' y (List.mem_cons_self ..))) (by omega)) ih
theorem sumWd {n : Nat} : ∀ {a : List Int}, (∀ x ∈ a, Wd n x) → Wd (n + a.length) a.sum
  | [], _ => by
    show (0 : Int).natAbs < _
    exact Nat.two_pow_pos _
  | x :: r, h => by
    have ih := sumWd (a := r) fun z hz => h z (List.mem_cons_of_mem _ hz)
    rw [List.sum_cons]
    exact Wd.add (n := n + r.length) (Wd.mono (h x (List.mem_cons_self ..)) (by omega)) ih
theorem valWd {n m : Nat} {s : Sm} {xs : List Int} (h : ∀ x ∈ s.1, Wd n x) (h2 : Wd n s.2) (h' : ∀ y ∈ xs, Wd m y) : Wd (n + m + s.1.length + 1) (val s xs) :=
  Wd.add (Wd.mono h2 (by omega)) (dotWd h h')

/-! ### data -/
def dI (ns : List Int) : List PyData := ns.map PyData.int
def dS (s : Sm) : PyData := .tuple [.tuple (dI s.1), .int s.2]
theorem dpInts {K : PySem.W.Frag} {H : Hp} : ∀ ns : List Int, DpAll K H (ns.map V.int) (dI ns)
  | [] => .nil
  | n :: r => .cons (.int n) (dpInts r)
theorem dpSum {K : PySem.W.Frag} {H : Hp} {v : V} {s : Sm} (h : SumIn K H v s) : Dp K H v (dS s) := by
  obtain ⟨a, t, rfl, h1, h2⟩ := h
  exact .tup h1 (.cons (.tup h2 (dpInts _)) (.cons (.int _) .nil))
theorem dpSums {K : PySem.W.Frag} {H : Hp} : ∀ {vs : List V} {ss : List Sm}, SumsIn K H vs ss → DpAll K H vs (ss.map dS)
  | _, _, .nil => .nil
  | _, _, .cons r t => .cons (dpSum r) (dpSums t)

/-- data that can be laid, at most n deep -/
def Ly (n : Nat) (d : PyData) : Prop := d.canLay0 = true ∧ d.depth ≤ n
def LyA (n : Nat) (ds : List PyData) : Prop := PyData.canLayAll0 ds = true ∧ PyData.depthAll ds ≤ n
theorem Ly.shaped {n : Nat} {d : PyData} (h : Ly n d) (l : n ≤ 64) : SeqAt.shaped d = true := by
  unfold SeqAt.shaped
  rw [h.1, decide_eq_true (Nat.le_trans h.2 l)]
  rfl
theorem Ly.same {n : Nat} {d : PyData} (h : Ly n d) : PyData.eqv d d = true := SeqAt.eqv_refl d h.1
theorem lyInt (i : Int) : Ly 1 (.int i) := ⟨by simp [PyData.canLay0], by simp [PyData.depth]⟩
theorem lyNil (n : Nat) : LyA n [] := ⟨by simp [PyData.canLayAll0], by simp [PyData.depthAll]⟩
theorem lyCons {n : Nat} {d : PyData} {ds : List PyData} (h : Ly n d) (h' : LyA n ds) : LyA n (d :: ds) := by
  refine ⟨?_, ?_⟩
  · simp [PyData.canLayAll0, h.1, h'.1]
  · have a := h.2
    have b := h'.2
    simp [PyData.depthAll]
    omega
theorem lyTup {n : Nat} {ds : List PyData} (h : LyA n ds) : Ly (n + 1) (.tuple ds) := by
  refine ⟨by simp [PyData.canLay0, h.1], ?_⟩
  have b := h.2
  simp [PyData.depth]
  omega
theorem lyLst {n : Nat} {ds : List PyData} (h : LyA n ds) : Ly (n + 1) (.list ds) := by
  refine ⟨by simp [PyData.canLay0, h.1], ?_⟩
  have b := h.2
  simp [PyData.depth]
  omega
theorem Ly.up {n m : Nat} {d : PyData} (h : Ly n d) (l : n ≤ m) : Ly m d := ⟨h.1, Nat.le_trans h.2 l⟩
theorem lyInts : ∀ ns : List Int, LyA 1 (dI ns)
  | [] => lyNil 1
  | n :: r => lyCons (lyInt n) (lyInts r)
theorem lySum (s : Sm) : Ly 3 (dS s) := lyTup (lyCons (lyTup (lyInts _)) (lyCons ((lyInt _).up (by decide)) (lyNil _)))
theorem lySums : ∀ ss : List Sm, LyA 3 (ss.map dS)
  | [] => lyNil 3
  | s :: r => lyCons (lySum s) (lySums r)

theorem pairedApp {α β : Type} {R : α → β → Prop} : ∀ {a c : List α} {b d : List β}, Paired R a b → Paired R c d → Paired R (a ++ c) (b ++ d)
  | _, _, _, _, .nil, h => h
  | _, _, _, _, .cons r t, h => .cons r (pairedApp t h)
end LW

namespace LW
open PySem PySem.Spec PyProof.Rows L2
/-! ### types compared -/
theorem slotTyNe : Slot "type" (cmpInfo .NotEq).2.1 "object.__ne__" :=
  .of (owner := "object") (n := "__ne__") (by rw [typeLookup_type, builtinLookup_eq_fast] <;> kernel_rfl) (by decide +kernel) (by decide +kernel) (by decide +kernel)
    (by first | exact .inr (by decide +kernel) | exact .inl (by decide +kernel)) (by rw [isSubtype_type] <;> kernel_rfl)
theorem slotTyNe2 : Slot "type" (cmpInfo .NotEq).2.2 "object.__ne__" := slotTyNe
section
variable {prog : Program} {w : World} {A : Around} {E : Value → Shared → Prop} {s : Shared}
theorem neSame {X : String} (hX : ∀ s' : Shared, s'.TypeIs (.type X) "type") {Q : Fin → Shared → Prop} (q : Q (.done (.ret (.bool false))) s) :
    wpAny (model prog w) A (Builtin.«object.__ne__» ⟨[.type X, .type X], []⟩) Q E s := by
  obtain ⟨hp, g, d, tk, os⟩ := s
  unfold Builtin.«object.__ne__»
  have step : ∀ {A' : Around} {R : Option Value → Shared → Prop}, R (some (.bool true)) ⟨hp, g, d, tk, os⟩ → wpAny (model prog w) A' (callSpecialIfBound? (.type X) "__eq__" [.type X]) R E ⟨hp, g, d, tk, os⟩ := fun {A' R} r =>
    wpAny_callSpecialIfBound?_slot (hX _) TypeEq.slot_type_eq (call_gives TypeEq.slot_type_eq (hX _) F.entry_object_eq (F.args_object_eq_2 _ _) (TypeEq.object_eq_same rfl (by simp)) r)
  repeat (first | with_reducible refine wpAny_cRoomFor_or (.inl rfl) ?_ | with_reducible refine step ?_ | wp_step)
  exact q
theorem neOther {X Y : String} (hX : ∀ s' : Shared, s'.TypeIs (.type X) "type") (hne : (Value.type X == Value.type Y) = false) {Q : Fin → Shared → Prop} (q : Q (.done (.ret .notImplemented)) s) :
    wpAny (model prog w) A (Builtin.«object.__ne__» ⟨[.type X, .type Y], []⟩) Q E s := by
  obtain ⟨hp, g, d, tk, os⟩ := s
  unfold Builtin.«object.__ne__»
  have step : ∀ {A' : Around} {R : Option Value → Shared → Prop}, R (some .notImplemented) ⟨hp, g, d, tk, os⟩ → wpAny (model prog w) A' (callSpecialIfBound? (.type X) "__eq__" [.type Y]) R E ⟨hp, g, d, tk, os⟩ := fun {A' R} r =>
    wpAny_callSpecialIfBound?_slot (hX _) TypeEq.slot_type_eq (call_gives TypeEq.slot_type_eq (hX _) F.entry_object_eq (F.args_object_eq_2 _ _) (TypeEq.object_eq_other rfl hne) r)
  repeat (first | with_reducible refine wpAny_cRoomFor_or (.inl rfl) ?_ | with_reducible refine step ?_ | wp_step)
  exact q
theorem neTySame {X : String} (hX : ∀ s' : Shared, s'.TypeIs (.type X) "type") {Q : Value → Shared → Prop} (q : Q (.bool false) s) : wpAny (model prog w) A (compareOp .NotEq (.type X) (.type X)) Q E s := by
  show wpAny _ A (richCompare .NotEq _ _) Q E s
  exact wpAny_richCompare_same (T := "type") (hX s) (hX s) slotTyNe (wpAny_call_entry slotTyNe (hX s) F.cmpEntry_ne (neSame hX ⟨_, rfl, (by intro e; cases e), q⟩) (F.cmpArgs_ne _ _))
theorem neTyOther {X Y : String} (hX : ∀ s' : Shared, s'.TypeIs (.type X) "type") (hY : ∀ s' : Shared, s'.TypeIs (.type Y) "type") (hne : (Value.type X == Value.type Y) = false) {Q : Value → Shared → Prop} (q : Q (.bool true) s) :
    wpAny (model prog w) A (compareOp .NotEq (.type X) (.type Y)) Q E s := by
  have hne' : (Value.type Y == Value.type X) = false := by
    rw [Bool.eq_false_iff] at hne ⊢
    exact fun e => hne (by rw [beq_iff_eq] at e ⊢; exact e.symm)
  have c1 : wpAny (model prog w) A (call (.builtin "object.__ne__") [.type X, .type Y]) (fun v s1 => v = .notImplemented ∧ s1 = s) E s :=
    wpAny_call_entry slotTyNe (hX s) F.cmpEntry_ne (neOther hX hne ⟨_, rfl, rfl, rfl⟩) (F.cmpArgs_ne _ _)
  have c2 : wpAny (model prog w) A (call (.builtin "object.__ne__") [.type Y, .type X]) (fun v s1 => v = .notImplemented ∧ s1 = s) E s :=
    wpAny_call_entry slotTyNe (hY s) F.cmpEntry_ne (neOther hY hne' ⟨_, rfl, rfl, rfl⟩) (F.cmpArgs_ne _ _)
  have t1 : ∀ {R : Option Value → Shared → Prop}, R none s → wpAny (model prog w) A (tryCompare (.type X) "__ne__" (.type Y)) R E s := fun {R} r =>
    wpAny_tryCompare_declines (hX s) slotTyNe (wpAny_mono c1 (fun v s1 h => ⟨h.1, by rw [h.2]; exact r⟩) fun _ _ z => z)
  have t2 : ∀ {R : Option Value → Shared → Prop}, R none s → wpAny (model prog w) A (tryCompare (.type Y) "__ne__" (.type X)) R E s := fun {R} r =>
    wpAny_tryCompare_declines (hY s) slotTyNe (wpAny_mono c2 (fun v s1 h => ⟨h.1, by rw [h.2]; exact r⟩) fun _ _ z => z)
  show wpAny _ A (richCompare .NotEq _ _) Q E s
  have hi : cmpInfo CmpOp.NotEq = (("!=", "__ne__", "__ne__") : String × Str × Str) := rfl
  simp only [richCompare, hi, (hX s).oneThing_none]
  try with_reducible refine wpAny_holding ?_
  refine wpAny_bind (wpAny_cRoomFor_or (.inl rfl) ?_)
  refine wpAny_bind (wpAny_typeOf (hX s) (wpAny_bind (wpAny_typeOf (hY s) ?_)))
  simp only [bne_self_eq_false, Bool.false_eq_true, if_false, pure_bind, Bool.not_false, if_true]
  refine wpAny_bind (t1 ?_)
  refine wpAny_bind (t2 ?_)
  refine wpAny_bind (wpAny_rule (wpAny_bind (wpAny_of_eq (isSame_plain rfl) (wpAny_pure ?_))))
  rw [hne]
  exact q
end

/-! ### type(x), and types as values -/
/-- the built-in types that the texts ask for -/
def tyOk (n : String) : Prop := ∀ s' : Shared, s'.TypeIs (.type n) "type"
inductive Known : String → Prop
  | int : Known "int" | str : Known "str" | bool : Known "bool" | non : Known "NoneType" | lst : Known "list" | tup : Known "tuple" | dct : Known "dict"
theorem Known.ok {n : String} (h : Known n) : tyOk n := by
  cases h
  · exact TypeEq.meta_int
  · exact TypeEq.meta_str
  · exact TypeEq.meta_bool
  · exact TypeEq.meta_NoneType
  · exact TypeEq.meta_list
  · exact TypeEq.meta_tuple
  · exact TypeEq.meta_dict
/-- the type of a value by its name -/
inductive TyN (K : PySem.W.Frag) (H : Hp) : V → String → Prop
  | non : TyN K H .non "NoneType"
  | bl (b : Bool) : TyN K H (.bl b) "bool"
  | int (i : Int) : TyN K H (.int i) "int"
  | str (x : Str) : TyN K H (.str x) "str"
  | lst {a : Addr} {xs : List V} (h : SqL K H a xs) : TyN K H (.ref a) "list"
  | tup {a : Addr} {xs : List V} (h : SqT K H a xs) : TyN K H (.ref a) "tuple"
  | dct {a : Addr} {kvs : List (Key × V)} (h : H a = some (.dK kvs)) : TyN K H (.ref a) "dict"
theorem TyN.known {K : PySem.W.Frag} {H : Hp} {x : V} {n : String} (h : TyN K H x n) : Known n := by cases h <;> constructor
def rTyN (K : PySem.W.Frag) : List V → Hp → VK → Prop := fun xs H Q => ∃ (x : V) (n : String), xs = [x] ∧ TyN K H x n ∧ Q (.ty n) H
theorem kType {X : Cx} {K : PySem.W.Frag} (h : X.K = K) : CallR X (.type "type") (rTyN K) := by
  subst h
  intro pins s σ H xs us Q I r h
  obtain ⟨x, n, rfl, t, q⟩ := h
  match us, r with
  | [u], .cons rx .nil =>
    have fin : ∀ (hx : s.TypeIs u n) (hb : (Value.type n == Value.type "builtin_function_or_method") = false), wpAny (model X.prog X.w) X.A (call (.type "type") [u]) (EP X pins σ Q) X.xe s := fun hx hb =>
      call_type_of hx hb ⟨.ty n, H, I, rfl, q⟩
    cases t with
    | non => cases rx; exact fin rfl (by decide +kernel)
    | bl b => cases rx; exact fin rfl (by decide +kernel)
    | int i => obtain ⟨k, rfl⟩ := rx; exact fin (typeIs_int s i k) (by decide +kernel)
    | str z => obtain ⟨k, rfl⟩ := rx; exact fin (typeIs_str s z k) (by decide +kernel)
    | lst e => cases rx; obtain ⟨_, _, p, _⟩ := I.list e; exact fin p.isList.typeIs (by decide +kernel)
    | tup e => cases rx; obtain ⟨_, _, p, _⟩ := I.tuple e; exact fin p.typeIs (by decide +kernel)
    | dct e => cases rx; obtain ⟨_, _, _, _, o, _, _, e1, e2, _⟩ := I.hok _ _ e; exact fin ⟨o, e1, e2.1⟩ (by decide +kernel)
def rEqTy : R2 := fun x y H Q => ∃ a b, x = .ty a ∧ y = .ty b ∧ Known a ∧ Known b ∧ Q (.bl (decide (a = b))) H
def rNeTy : R2 := fun x y H Q => ∃ a b, x = .ty a ∧ y = .ty b ∧ Known a ∧ Known b ∧ Q (.bl (!decide (a = b))) H
theorem tyDiff {a b : String} (h : ¬ a = b) : (Value.type a == Value.type b) = false := by
  rw [Bool.eq_false_iff]
  intro e
  rw [beq_iff_eq] at e
  cases e
  exact h rfl
theorem kEqTy {X : Cx} : OpR X (compareOp .Eq) rEqTy := by
  intro pins s σ H x y v u Q I rx ry h
  obtain ⟨a, b, rfl, rfl, ka, kb, q⟩ := h
  cases rx
  cases ry
  by_cases e : a = b
  · subst e
    exact TypeEq.eq_type_same ka.ok ⟨.bl true, H, I, rfl, by rw [decide_eq_true rfl] at q; exact q⟩
  · exact TypeEq.eq_type_other ka.ok kb.ok (tyDiff e) ⟨.bl false, H, I, rfl, by rw [decide_eq_false e] at q; exact q⟩
theorem kNeTy {X : Cx} : OpR X (compareOp .NotEq) rNeTy := by
  intro pins s σ H x y v u Q I rx ry h
  obtain ⟨a, b, rfl, rfl, ka, kb, q⟩ := h
  cases rx
  cases ry
  by_cases e : a = b
  · subst e
    exact neTySame ka.ok ⟨.bl false, H, I, rfl, by rw [decide_eq_true rfl] at q; exact q⟩
  · exact neTyOther ka.ok kb.ok (tyDiff e) ⟨.bl true, H, I, rfl, by rw [decide_eq_false e] at q; exact q⟩
end LW

namespace LW
open PySem PySem.Spec PyProof.Rows L2
/-! ### data that a program may be made of -/
inductive D where
  | non | bl (b : Bool) | int (i : Int) | str (s : Str) | lst | dct | tup (ds : List D)
mutual
inductive Din (K : PySem.W.Frag) (H : Hp) : V → D → Prop
  | non : Din K H .non .non
  | bl (b : Bool) : Din K H (.bl b) (.bl b)
  | int (i : Int) : Din K H (.int i) (.int i)
  | str (s : Str) : Din K H (.str s) (.str s)
  | lst {a : Addr} {xs : List V} (h : SqL K H a xs) : Din K H (.ref a) .lst
  | dct {a : Addr} {kvs : List (Key × V)} (h : H a = some (.dK kvs)) : Din K H (.ref a) .dct
  | tup {a : Addr} {xs : List V} {ds : List D} (h : SqT K H a xs) (t : DinA K H xs ds) : Din K H (.ref a) (.tup ds)
inductive DinA (K : PySem.W.Frag) (H : Hp) : List V → List D → Prop
  | nil : DinA K H [] []
  | cons {v : V} {vs : List V} {d : D} {ds : List D} (h : Din K H v d) (t : DinA K H vs ds) : DinA K H (v :: vs) (d :: ds)
end
mutual
/-- without lists and dicts -/
def D.pure : D → Bool
  | .lst => false
  | .dct => false
  | .tup ds => D.pures ds
  | _ => true
def D.pures : List D → Bool
  | [] => true
  | d :: r => D.pure d && D.pures r
end
section
variable {K : PySem.W.Frag} {H H' : Hp}
mutual
theorem dinSame (e : Same H H') : ∀ {d : D} {v : V}, Din K H v d → Din K H' v d
  | .non, _, .non => .non
  | .bl _, _, .bl b => .bl b
  | .int _, _, .int i => .int i
  | .str _, _, .str s => .str s
  | .lst, _, .lst h => .lst (Same.seq e h)
  | .dct, _, .dct h => .dct (e _ _ h)
  | .tup ds, _, .tup h t => .tup (tupS e h) (dinASame e t)
theorem dinASame (e : Same H H') : ∀ {ds : List D} {vs : List V}, DinA K H vs ds → DinA K H' vs ds
  | [], _, .nil => .nil
  | _ :: _, _, .cons h t => .cons (dinSame e h) (dinASame e t)
end
mutual
theorem dinTS (e : TS H H') : ∀ {d : D} {v : V}, d.pure = true → Din K H v d → Din K H' v d
  | .non, _, _, .non => .non
  | .bl _, _, _, .bl b => .bl b
  | .int _, _, _, .int i => .int i
  | .str _, _, _, .str s => .str s
  | .lst, _, p, _ => by simp [D.pure] at p
  | .dct, _, p, _ => by simp [D.pure] at p
  | .tup ds, _, p, .tup h t => .tup (tsTup e h) (dinATS e (by simpa [D.pure] using p) t)
theorem dinATS (e : TS H H') : ∀ {ds : List D} {vs : List V}, D.pures ds = true → DinA K H vs ds → DinA K H' vs ds
  | [], _, _, .nil => .nil
  | _ :: _, _, p, .cons h t => by
    simp only [D.pures, Bool.and_eq_true] at p
    exact .cons (dinTS e p.1 h) (dinATS e p.2 t)
end
theorem DinA.len : ∀ {vs : List V} {ds : List D}, DinA K H vs ds → vs.length = ds.length
  | _, _, .nil => rfl
  | _, _, .cons _ t => by rw [List.length_cons, List.length_cons, DinA.len t]
theorem dinAt : ∀ {vs : List V} {ds : List D} {i : Nat} {v : V}, DinA K H vs ds → vs[i]? = some v → ∃ d, ds[i]? = some d ∧ Din K H v d
  | _, _, _, _, .nil, e => by simp at e
  | _, _, 0, _, .cons h _, e => by
    simp at e
    subst e
    exact ⟨_, rfl, h⟩
  | _, _, i + 1, v, .cons _ t, e => by
    obtain ⟨d, h1, h2⟩ := dinAt (i := i) t (by simpa using e)
    exact ⟨d, by simpa using h1, h2⟩
theorem dinAtD : ∀ {vs : List V} {ds : List D} {i : Nat} {d : D}, DinA K H vs ds → ds[i]? = some d → ∃ v, vs[i]? = some v ∧ Din K H v d
  | _, _, _, _, .nil, e => by simp at e
  | _, _, 0, _, .cons h _, e => by
    simp at e
    subst e
    exact ⟨_, rfl, h⟩
  | _, _, i + 1, v, .cons _ t, e => by
    obtain ⟨d, h1, h2⟩ := dinAtD (i := i) t (by simpa using e)
    exact ⟨d, by simpa using h1, h2⟩
theorem dinApp : ∀ {a c : List V} {b d : List D}, DinA K H a b → DinA K H c d → DinA K H (a ++ c) (b ++ d)
  | _, _, _, _, .nil, h => h
  | _, _, _, _, .cons r t, h => .cons r (dinApp t h)
theorem dinDrop : ∀ {vs : List V} {ds : List D} (n : Nat), DinA K H vs ds → DinA K H (vs.drop n) (ds.drop n)
  | _, _, 0, h => by simpa using h
  | _, _, _ + 1, .nil => by simpa using DinA.nil
  | _, _, n + 1, .cons _ t => by simpa using dinDrop n t
theorem dinTake : ∀ {vs : List V} {ds : List D} (n : Nat), DinA K H vs ds → DinA K H (vs.take n) (ds.take n)
  | _, _, 0, h => by simpa using DinA.nil
  | _, _, _ + 1, .nil => by simpa using DinA.nil
  | _, _, n + 1, .cons h t => by simpa using DinA.cons h (dinTake n t)
theorem dinInts : ∀ ns : List Int, DinA K H (ns.map V.int) (ns.map D.int)
  | [] => .nil
  | n :: r => .cons (.int n) (dinInts r)
theorem pureInts : ∀ ns : List Int, D.pures (ns.map D.int) = true
  | [] => rfl
  | n :: r => by
    simp only [List.map_cons, D.pures, D.pure, Bool.true_and]
    exact pureInts r
/-- a sum as data -/
def dSm (s : Sm) : D := .tup [.tup (s.1.map D.int), .int s.2]
theorem dinSum {v : V} {s : Sm} (h : SumIn K H v s) : Din K H v (dSm s) := by
  obtain ⟨a, t, rfl, h1, h2⟩ := h
  exact .tup h1 (.cons (.tup h2 (dinInts _)) (.cons (.int _) .nil))
theorem sumDin {v : V} {s : Sm} (h : Din K H v (dSm s)) : SumIn K H v s := by
  cases h with
  | tup h1 t =>
    cases t with
    | cons a b =>
      cases a with
      | tup h2 t2 =>
        cases b with
        | cons c d =>
          cases c
          cases d
          have key : ∀ (ns : List Int) (xs : List V), DinA K H xs (ns.map D.int) → xs = ns.map V.int := by
            intro ns
            induction ns with
            | nil =>
              intro xs h
              cases h
              rfl
            | cons n r ih =>
              intro xs h
              cases h with
              | cons p q =>
                cases p
                rw [ih _ q]
                rfl
          rw [key _ _ t2] at h2
          exact ⟨_, _, rfl, h1, h2⟩
theorem pureSum (s : Sm) : (dSm s).pure = true := by
  simp [dSm, D.pure, D.pures, pureInts]
/-- its type's name -/
def D.ty : D → String
  | .non => "NoneType" | .bl _ => "bool" | .int _ => "int" | .str _ => "str" | .lst => "list" | .dct => "dict" | .tup _ => "tuple"
theorem dinTy {v : V} {d : D} (h : Din K H v d) : TyN K H v d.ty := by
  cases h with
  | non => exact .non
  | bl b => exact .bl b
  | int i => exact .int i
  | str s => exact .str s
  | lst h => exact .lst h
  | dct h => exact .dct h
  | tup h _ => exact .tup h
end

/-! ### what is a program -/
def fromTo (d : D) (lo hi : Int) : Bool := match d with
  | .int i => decide (lo ≤ i) && decide (i ≤ hi)
  | _ => false
def sumOk (many : Nat) (d : D) : Bool := match d with
  | .tup [.tup ns, l] => decide (ns.length = many) && ns.all (fun n => fromTo n (-9) 9) && fromTo l (-99) 99
  | _ => false
def wordsOk (many : Nat) (d : D) : Bool := match d with
  | .tup ws => decide (ws.length ≤ 3) && ws.all (sumOk many)
  | _ => false
def restOk (many : Nat) (k : Str) (rest : List D) : Bool :=
  if k = "put" then (match rest with | [b, s] => fromTo b 0 ((many : Int) - 1) && sumOk many s | _ => false)
  else if k = "say" then (match rest with | [w] => sumOk many w | _ => false)
  else if k = "if" then (match rest with | [w, _, _] => sumOk many w | _ => false)
  else if k = "loop" then (match rest with | [w, ws, _] => sumOk many w && wordsOk many ws | _ => false)
  else false
/-- a row is well, but for the rows within it -/
def rowOk (many : Nat) (d : D) : Bool := match d with
  | .tup (.str k :: rest) => restOk many k rest
  | _ => false
/-- the rows within a row -/
def inner (d : D) : List D := match d with
  | .tup (.str k :: rest) => if k = "if" then rest.drop 1 else if k = "loop" then rest.drop 2 else []
  | _ => []
def addTo (f : D → Option Nat) (c : Nat) (d : D) : Option Nat := (f d).bind fun n => if 12 < c + n then none else some (c + n)
def rowTo (many : Nat) (f : D → Option Nat) (c : Nat) (d : D) : Option Nat := if rowOk many d then (inner d).foldlM (addTo f) c else none
/-- how many rows in all; none where these are no rows of a program (r: how deep it may still go) -/
def chk (many : Nat) : Nat → D → Option Nat
  | 0, _ => none
  | r + 1, .tup rows => if 12 < rows.length then none else rows.foldlM (rowTo many (chk many r)) rows.length
  | _ + 1, _ => none
def topsOk (ts : List D) : Bool := decide (1 ≤ ts.length) && decide (ts.length ≤ 3) && ts.all fun t => fromTo t 0 9

def D.isInt : D → Bool | .int _ => true | _ => false
def D.isTup : D → Bool | .tup _ => true | _ => false
def D.isStr : D → Bool | .str _ => true | _ => false
theorem decInt (d : D) : decide (d.ty = "int") = d.isInt := by cases d <;> simp [D.ty, D.isInt]
theorem decTup (d : D) : decide (d.ty = "tuple") = d.isTup := by cases d <;> simp [D.ty, D.isTup]
theorem decStr (d : D) : decide (d.ty = "str") = d.isStr := by cases d <;> simp [D.ty, D.isStr]
theorem notDec {p : Prop} [Decidable p] {A B : Prop} (h1 : ¬ p → A) (h2 : p → B) : if (!decide p) = true then A else B := by
  by_cases h : p
  · rw [decide_eq_true h]
    exact iteF (h2 h)
  · rw [decide_eq_false h]
    exact iteT (h1 h)
theorem yesDec {p : Prop} [Decidable p] {A B : Prop} (h1 : p → A) (h2 : ¬ p → B) : if decide p = true then A else B := by
  by_cases h : p
  · rw [decide_eq_true h]
    exact iteT (h1 h)
  · rw [decide_eq_false h]
    exact iteF (h2 h)
theorem ifB {b : Bool} {A B : Prop} (h1 : b = true → A) (h2 : b = false → B) : if b = true then A else B := by
  cases b with
  | true => exact iteT (h1 rfl)
  | false => exact iteF (h2 rfl)
theorem intEq {a b : Int} : (V.int a = V.int b) ↔ a = b := ⟨fun h => V.int.inj h, fun h => by rw [h]⟩
theorem strEq {a b : Str} : (V.str a = V.str b) ↔ a = b := ⟨fun h => V.str.inj h, fun h => by rw [h]⟩
theorem sumOk_not {many : Nat} {ds : List D} (h : ds.length ≠ 2) : sumOk many (.tup ds) = false := by
  unfold sumOk
  split
  · rename_i e
    cases e
    exact absurd rfl h
  · rfl
theorem din2 {K : PySem.W.Frag} {H : Hp} {xs : List V} {ds : List D} (h : DinA K H xs ds) (l : ds.length = 2) : ∃ x y dx dy, xs = [x, y] ∧ ds = [dx, dy] ∧ Din K H x dx ∧ Din K H y dy := by
  cases h with
  | nil => simp at l
  | cons h1 t =>
    cases t with
    | nil => simp at l
    | cons h2 t2 =>
      cases t2 with
      | nil => exact ⟨_, _, _, _, rfl, rfl, h1, h2⟩
      | cons h3 t3 => simp at l

theorem allMap {α : Type} (p : α → Bool) (l : List α) : ((l.map p).all id) = l.all p := by
  rw [List.all_map]
  rfl
/-- a comprehension of tests -/
theorem madeBl {H0 H : Hp} {D : Addr} {n : Nat} {α : Type} {ds : List α} {p : α → Bool} (m : Made H0 D (fun i y _ => y = .bl ((ds[i]?.map p).getD false)) n H) (hn : n = ds.length) : H D = some (.lst ((ds.map p).map V.bl)) ∧ Same H0 H := by
  obtain ⟨ys, ly, g, sm, hy⟩ := m
  refine ⟨?_, sm⟩
  rw [g]
  congr 2
  apply List.ext_getElem?
  intro j
  by_cases hj : j < ys.length
  · have hj2 : j < ds.length := by omega
    have := hy j ys[j] (List.getElem?_eq_getElem hj)
    rw [List.getElem?_eq_getElem hj, this]
    simp [hj2]
  · rw [List.getElem?_eq_none (by omega), List.getElem?_eq_none (by simp; omega)]

theorem din1 {K : PySem.W.Frag} {H : Hp} {xs : List V} {ds : List D} (h : DinA K H xs ds) (l : ds.length = 1) : ∃ x dx, xs = [x] ∧ ds = [dx] ∧ Din K H x dx := by
  cases h with
  | nil => simp at l
  | cons h1 t =>
    cases t with
    | nil => exact ⟨_, _, rfl, rfl, h1⟩
    | cons h2 t2 => simp at l
theorem din3 {K : PySem.W.Frag} {H : Hp} {xs : List V} {ds : List D} (h : DinA K H xs ds) (l : ds.length = 3) : ∃ x y z dx dy dz, xs = [x, y, z] ∧ ds = [dx, dy, dz] ∧ Din K H x dx ∧ Din K H y dy ∧ Din K H z dz := by
  cases h with
  | nil => simp at l
  | cons h1 t =>
    obtain ⟨y, z, dy, dz, rfl, rfl, hy, hz⟩ := din2 t (by simpa using l)
    exact ⟨_, _, _, _, _, _, rfl, rfl, h1, hy, hz⟩
end LW

namespace LW
open PySem PySem.Spec PyProof.Rows L2
/-! ### rows that are well, and how many they are -/
def good (many : Nat) : Nat → D → Bool
  | r + 1, .tup rows => rows.all fun row => rowOk many row && (inner row).all (good many r)
  | _, _ => false
def cnt : Nat → D → Nat
  | r + 1, .tup rows => (rows.map fun row => 1 + ((inner row).map (cnt r)).sum).sum
  | _, _ => 0
theorem addFold (f : D → Option Nat) (g : D → Bool) (n : D → Nat) (hf : ∀ d, f d = if g d = true ∧ n d ≤ 12 then some (n d) else none) : ∀ (l : List D) (c : Nat), c ≤ 12 →
    l.foldlM (addTo f) c = if (l.all g) = true ∧ c + (l.map n).sum ≤ 12 then some (c + (l.map n).sum) else none
  | [], c, h => by
    simp
    exact h
  | d :: r, c, h => by
    rw [List.foldlM_cons]
    unfold addTo
    rw [hf d]
    by_cases hd : g d = true ∧ n d ≤ 12
    · rw [if_pos hd]
      by_cases h12 : 12 < c + n d
      · rw [show ((some (n d)).bind fun m => if 12 < c + m then none else some (c + m)) = none by simp [h12]]
        rw [if_neg (by
          rintro ⟨_, q⟩
          simp only [List.map_cons, List.sum_cons] at q
          omega)]
        rfl
      · rw [show ((some (n d)).bind fun m => if 12 < c + m then none else some (c + m)) = some (c + n d) by simp [h12]]
        have ih := addFold f g n hf r (c + n d) (by omega)
        show r.foldlM (addTo f) (c + n d) = _
        rw [ih]
        simp only [List.all_cons, hd.1, Bool.true_and, List.map_cons, List.sum_cons, Nat.add_assoc]
    · rw [if_neg hd]
      rw [if_neg (by
        rintro ⟨q1, q2⟩
        simp only [List.all_cons, Bool.and_eq_true, List.map_cons, List.sum_cons] at q1 q2
        exact hd ⟨q1.1, by omega⟩)]
      rfl
theorem rowFold (many : Nat) (f : D → Option Nat) (g : D → Bool) (n : D → Nat) (hf : ∀ d, f d = if g d = true ∧ n d ≤ 12 then some (n d) else none) : ∀ (l : List D) (c : Nat), c ≤ 12 →
    l.foldlM (rowTo many f) c = if (l.all fun row => rowOk many row && (inner row).all g) = true ∧ c + (l.map fun row => ((inner row).map n).sum).sum ≤ 12 then some (c + (l.map fun row => ((inner row).map n).sum).sum) else none
  | [], c, h => by
    simp
    exact h
  | d :: r, c, h => by
    rw [List.foldlM_cons]
    unfold rowTo
    by_cases ho : rowOk many d = true
    · rw [if_pos ho, addFold f g n hf (inner d) c h]
      by_cases hd : (inner d).all g = true ∧ c + ((inner d).map n).sum ≤ 12
      · rw [if_pos hd]
        have ih := rowFold many f g n hf r _ hd.2
        show r.foldlM (rowTo many f) (c + ((inner d).map n).sum) = _
        rw [ih]
        simp only [List.all_cons, ho, hd.1, Bool.true_and, Bool.and_self, List.map_cons, List.sum_cons, Nat.add_assoc]
      · rw [if_neg hd]
        rw [if_neg (by
          rintro ⟨q1, q2⟩
          simp only [List.all_cons, Bool.and_eq_true, List.map_cons, List.sum_cons] at q1 q2
          exact hd ⟨q1.1.2, by omega⟩)]
        rfl
    · rw [if_neg ho]
      rw [if_neg (by
        rintro ⟨q1, q2⟩
        simp only [List.all_cons, Bool.and_eq_true] at q1
        exact ho q1.1.1)]
      rfl
theorem sum_one {α : Type} (f : α → Nat) : ∀ l : List α, (l.map fun x => 1 + f x).sum = l.length + (l.map f).sum
  | [] => rfl
  | x :: r => by
    simp only [List.map_cons, List.sum_cons, List.length_cons, sum_one f r]
    omega
/-- what the check tells -/
theorem chk_is (many : Nat) : ∀ (r : Nat) (d : D), chk many r d = if good many r d = true ∧ cnt r d ≤ 12 then some (cnt r d) else none
  | 0, d => by
    cases d <;> simp [chk, good]
  | r + 1, d => by
    cases d with
    | tup rows =>
      have e : cnt (r + 1) (.tup rows) = rows.length + (rows.map fun row => ((inner row).map (cnt r)).sum).sum := by
        simp only [cnt]
        exact sum_one _ rows
      simp only [chk]
      by_cases h : 12 < rows.length
      · rw [if_pos h, if_neg (by
          rintro ⟨_, q⟩
          omega)]
      · rw [if_neg h, rowFold many _ (good many r) (cnt r) (chk_is many r) rows rows.length (by omega), e]
        simp only [good]
        congr
    | _ => simp [chk, good]
theorem chk_some {many r : Nat} {d : D} (h : good many r d = true) (h' : cnt r d ≤ 12) : chk many r d = some (cnt r d) := by rw [chk_is, if_pos ⟨h, h'⟩]
theorem chk_none {many r : Nat} {d : D} (h : good many r d = false ∨ 12 < cnt r d) : chk many r d = none := by
  rw [chk_is, if_neg]
  rintro ⟨a, b⟩
  rcases h with h | h
  · rw [h] at a
    cases a
  · omega
/-- a row that is well at a depth -/
def GRow (many r : Nat) (d : D) : Prop := rowOk many d = true ∧ d.pure = true ∧ (inner d).all (good many r) = true
def cntRow (r : Nat) (d : D) : Nat := 1 + ((inner d).map (cnt r)).sum
theorem good_tup {many r : Nat} {ds : List D} (h : ∀ d ∈ ds, GRow many r d) : good many (r + 1) (.tup ds) = true := by
  simp only [good, List.all_eq_true, Bool.and_eq_true]
  exact fun d hd => ⟨(h d hd).1, by have := (h d hd).2.2; rwa [List.all_eq_true] at this⟩
theorem cnt_tup {r : Nat} {ds : List D} : cnt (r + 1) (.tup ds) = (ds.map (cntRow r)).sum := rfl
/-- a sum within the bounds -/
def SumW (many : Nat) (s : Sm) : Prop := s.1.length = many ∧ (∀ n ∈ s.1, -9 ≤ n ∧ n ≤ 9) ∧ -99 ≤ s.2 ∧ s.2 ≤ 99
theorem fromTo_int {i lo hi : Int} (h : lo ≤ i) (h' : i ≤ hi) : fromTo (.int i) lo hi = true := by simp [fromTo, h, h']
theorem sumOk_of {many : Nat} {s : Sm} (h : SumW many s) : sumOk many (dSm s) = true := by
  obtain ⟨h1, h2, h3, h4⟩ := h
  simp only [dSm, sumOk, List.length_map, h1, decide_true, Bool.true_and, fromTo_int h3 h4, Bool.and_true, List.all_map]
  rw [List.all_eq_true]
  intro n hn
  exact fromTo_int (h2 n hn).1 (h2 n hn).2
theorem put_row {many r : Nat} {b : Int} {s : Sm} (h0 : 0 ≤ b) (hb : b < many) (h : SumW many s) : GRow many r (.tup [.str "put", .int b, dSm s]) := by
  have e : ("put" : Str) ≠ "if" ∧ ("put" : Str) ≠ "loop" := by decide +kernel
  refine ⟨?_, ?_, ?_⟩
  · simp [rowOk, restOk, fromTo_int h0 (show b ≤ (many : Int) - 1 by omega), sumOk_of h]
  · simp [D.pure, D.pures, pureSum]
  · simp [inner, e.1, e.2]
theorem say_row {many r : Nat} {s : Sm} (h : SumW many s) : GRow many r (.tup [.str "say", dSm s]) := by
  have e : ("say" : Str) ≠ "if" ∧ ("say" : Str) ≠ "loop" ∧ ("say" : Str) ≠ "put" := by decide +kernel
  refine ⟨?_, ?_, ?_⟩
  · simp [rowOk, restOk, e.2.2, sumOk_of h]
  · simp [D.pure, D.pures, pureSum]
  · simp [inner, e.1, e.2.1]
theorem if_row {many r : Nat} {s : Sm} {a b : List D} (h : SumW many s) (ha : good many r (.tup a) = true) (hb : good many r (.tup b) = true) (pa : D.pures a = true) (pb : D.pures b = true) :
    GRow many r (.tup [.str "if", dSm s, .tup a, .tup b]) := by
  have e : ("if" : Str) ≠ "put" ∧ ("if" : Str) ≠ "say" := by decide +kernel
  refine ⟨?_, ?_, ?_⟩
  · simp [rowOk, restOk, e.1, e.2, sumOk_of h]
  · simp [D.pure, D.pures, pureSum, pa, pb]
  · simp [inner, ha, hb]
theorem loop_row {many r : Nat} {s : Sm} {ws : List Sm} {b : List D} (h : SumW many s) (hw : ∀ w ∈ ws, SumW many w) (hl : ws.length ≤ 3) (hb : good many r (.tup b) = true) (pb : D.pures b = true) :
    GRow many r (.tup [.str "loop", dSm s, .tup (ws.map dSm), .tup b]) := by
  have e : ("loop" : Str) ≠ "put" ∧ ("loop" : Str) ≠ "say" ∧ ("loop" : Str) ≠ "if" := by decide +kernel
  have pw : D.pures (ws.map dSm) = true := by
    have key : ∀ l : List Sm, D.pures (l.map dSm) = true := by
      intro l
      induction l with
      | nil => rfl
      | cons x r ih => simp [D.pures, pureSum, ih]
    exact key ws
  have ww : wordsOk many (.tup (ws.map dSm)) = true := by
    simp only [wordsOk, List.length_map, List.all_map, Bool.and_eq_true, decide_eq_true_eq, List.all_eq_true]
    exact ⟨hl, fun w hw' => sumOk_of (hw w hw')⟩
  refine ⟨?_, ?_, ?_⟩
  · simp [rowOk, restOk, e.1, e.2.1, e.2.2, sumOk_of h, ww]
  · simp [D.pure, D.pures, pureSum, pb, pw]
  · simp [inner, e.2.2, hb]
theorem cnt_if {r : Nat} {s : D} {a b : List D} : cntRow r (.tup [.str "if", s, .tup a, .tup b]) = 1 + cnt r (.tup a) + cnt r (.tup b) := by
  simp [cntRow, inner]
  omega
theorem cnt_loop {r : Nat} {s ws : D} {b : List D} : cntRow r (.tup [.str "loop", s, ws, .tup b]) = 1 + cnt r (.tup b) := by
  have e : ("loop" : Str) ≠ "if" := by decide +kernel
  simp [cntRow, inner, e]
theorem cnt_put {r : Nat} {b s : D} : cntRow r (.tup [.str "put", b, s]) = 1 := by
  have e : ("put" : Str) ≠ "if" ∧ ("put" : Str) ≠ "loop" := by decide +kernel
  simp [cntRow, inner, e.1, e.2]
theorem cnt_say {r : Nat} {s : D} : cntRow r (.tup [.str "say", s]) = 1 := by
  have e : ("say" : Str) ≠ "if" ∧ ("say" : Str) ≠ "loop" := by decide +kernel
  simp [cntRow, inner, e.1, e.2]

/-! ### the state of the drawing -/
def stK (sc tp : Addr) (p l : Int) : List (Key × V) := [(.inr "script", .ref sc), (.inr "at", .int p), (.inr "left", .int l), (.inr "tops", .ref tp)]
theorem stNe : ¬ (("script" : Str) = "at") ∧ ¬ (("script" : Str) = "left") ∧ ¬ (("script" : Str) = "tops") ∧ ¬ (("at" : Str) = "left") ∧ ¬ (("at" : Str) = "tops") ∧ ¬ (("left" : Str) = "tops") := by decide +kernel
theorem keyNe {a b : Str} (h : ¬ a = b) : ¬ ((Sum.inr a : Key) = Sum.inr b) := fun e => h (Sum.inr.inj e)
section
variable {sc tp : Addr} {p l z : Int}
theorem st_script : valV (stK sc tp p l) (.inr "script") = some (.ref sc) := valV_pos rfl
theorem st_at : valV (stK sc tp p l) (.inr "at") = some (.int p) := (valV_neg (keyNe stNe.1)).trans (valV_pos rfl)
theorem st_left : valV (stK sc tp p l) (.inr "left") = some (.int l) := (valV_neg (keyNe stNe.2.1)).trans ((valV_neg (keyNe stNe.2.2.2.1)).trans (valV_pos rfl))
theorem st_tops : valV (stK sc tp p l) (.inr "tops") = some (.ref tp) := (valV_neg (keyNe stNe.2.2.1)).trans ((valV_neg (keyNe stNe.2.2.2.2.1)).trans ((valV_neg (keyNe stNe.2.2.2.2.2)).trans (valV_pos rfl)))
theorem put_at_ : putK (stK sc tp p l) (.inr "at") (.int z) = stK sc tp z l := by
  unfold putK
  rw [valV_any, st_at]
  simp only [Option.isSome_some, if_true, stK, List.map_cons, List.map_nil]
  rw [if_neg (keyNe stNe.1), if_neg (keyNe fun e => stNe.2.2.2.1 e.symm), if_neg (keyNe fun e => stNe.2.2.2.2.1 e.symm)]
theorem put_left_ : putK (stK sc tp p l) (.inr "left") (.int z) = stK sc tp p z := by
  unfold putK
  rw [valV_any, st_left]
  simp only [Option.isSome_some, if_true, stK, List.map_cons, List.map_nil]
  rw [if_neg (keyNe stNe.2.1), if_neg (keyNe stNe.2.2.2.1), if_neg (keyNe fun e => stNe.2.2.2.2.2 e.symm)]
end
/-- all but ds as it was -/
def But (ds : Addr) (H H' : Hp) : Prop := ∀ b o, b ≠ ds → H b = some o → H' b = some o
theorem But.refl (ds : Addr) (H : Hp) : But ds H H := fun _ _ _ h => h
theorem But.trans {ds : Addr} {H H1 H2 : Hp} (a : But ds H H1) (b : But ds H1 H2) : But ds H H2 := fun c o n h => b c o n (a c o n h)
theorem butOf {ds : Addr} {H H' : Hp} (e : Same H H') : But ds H H' := fun b o _ h => e b o h
theorem butSeq {K : PySem.W.Frag} {ds a : Addr} {H H' : Hp} {xs : List V} {kvs : List (Key × V)} (e : But ds H H') (hd : H ds = some (.dK kvs)) (h : SqL K H a xs) : SqL K H' a xs := by
  rcases h with (h | ⟨o, h⟩) | h
  · exact .inl (.inl (e _ _ (fun z => by rw [z, hd] at h; cases h) h))
  · exact .inl (.inr ⟨o, e _ _ (fun z => by rw [z, hd] at h; cases h) h⟩)
  · exact .inr h
theorem butTS {ds : Addr} {H H' : Hp} {kvs : List (Key × V)} (e : But ds H H') (hd : H ds = some (.dK kvs)) : TS H H' := fun a =>
  ⟨fun xs h => e _ _ (fun z => by rw [z, hd] at h; cases h) h, fun o u h => by
    by_cases z : a = ds
    · subst z
      rw [hd] at h
      cases h
    · exact e _ _ z h⟩
def TopsW (tops : List Int) : Prop := 1 ≤ tops.length ∧ tops.length ≤ 3 ∧ ∀ t ∈ tops, 0 ≤ t ∧ t ≤ 9
structure Stt (K : PySem.W.Frag) (H : Hp) (ds sc tp : Addr) (script tops : List Int) (p l : Int) : Prop where
  d : H ds = some (.dK (stK sc tp p l))
  s : SqL K H sc (script.map V.int)
  s63 : script.length ≤ 63
  t : SqL K H tp (tops.map V.int)
  w : TopsW tops
section
variable {K : PySem.W.Frag} {H H' : Hp} {ds sc tp : Addr} {script tops : List Int} {p l z : Int}
theorem Stt.gS (h : Stt K H ds sc tp script tops p l) : DGet H ds (.str "script") (some (.ref sc)) := by
  have q := DGet.k (k := Sum.inr "script") h.d
  rw [st_script] at q
  exact q
theorem Stt.gA (h : Stt K H ds sc tp script tops p l) : DGet H ds (.str "at") (some (.int p)) := by
  have q := DGet.k (k := Sum.inr "at") h.d
  rw [st_at] at q
  exact q
theorem Stt.gL (h : Stt K H ds sc tp script tops p l) : DGet H ds (.str "left") (some (.int l)) := by
  have q := DGet.k (k := Sum.inr "left") h.d
  rw [st_left] at q
  exact q
theorem Stt.gT (h : Stt K H ds sc tp script tops p l) : DGet H ds (.str "tops") (some (.ref tp)) := by
  have q := DGet.k (k := Sum.inr "tops") h.d
  rw [st_tops] at q
  exact q
theorem stLine : (stK sc tp p l).length < sizeLine := by
  show 4 < sizeLine
  decide
theorem Stt.pA (h : Stt K H ds sc tp script tops p l) (z : Int) : DPut H ds (.str "at") (.int z) (upd H ds (.dK (stK sc tp z l))) := by
  have q := DPut.k (k := Sum.inr "at") (v := .int z) h.d stLine
  rw [put_at_] at q
  exact q
theorem Stt.pL (h : Stt K H ds sc tp script tops p l) (z : Int) : DPut H ds (.str "left") (.int z) (upd H ds (.dK (stK sc tp p z))) := by
  have q := DPut.k (k := Sum.inr "left") (v := .int z) h.d stLine
  rw [put_left_] at q
  exact q
theorem butUpd {o : HO} : But ds H (upd H ds o) := fun b u n h => by rw [upd_ne n]; exact h
theorem Stt.to (h : Stt K H ds sc tp script tops p l) {p' l' : Int} (e : But ds H H') (hd : H' ds = some (.dK (stK sc tp p' l'))) : Stt K H' ds sc tp script tops p' l' := ⟨hd, butSeq e h.d h.s, h.s63, butSeq e h.d h.t, h.w⟩
theorem Stt.setA (h : Stt K H ds sc tp script tops p l) (z : Int) : Stt K (upd H ds (.dK (stK sc tp z l))) ds sc tp script tops z l := h.to butUpd upd_same
theorem Stt.setL (h : Stt K H ds sc tp script tops p l) (z : Int) : Stt K (upd H ds (.dK (stK sc tp p z))) ds sc tp script tops p z := h.to butUpd upd_same
theorem Stt.same (h : Stt K H ds sc tp script tops p l) (e : Same H H') : Stt K H' ds sc tp script tops p l := h.to (butOf e) (e _ _ h.d)
end

theorem pures_of {ds : List D} (h : ∀ d ∈ ds, d.pure = true) : D.pures ds = true := by
  induction ds with
  | nil => rfl
  | cons d r ih =>
    simp only [D.pures, Bool.and_eq_true]
    exact ⟨h d (List.mem_cons_self ..), ih fun x hx => h x (List.mem_cons_of_mem _ hx)⟩
theorem orB {t u : TT} {σ : L2.St} {H : Hp} {Q : Bool → Hp → Prop} (b1 b2 : Bool) (h1 : ∀ R : Bool → Hp → Prop, R b1 H → t σ H R) (h2 : ∀ R : Bool → Hp → Prop, R b2 H → u σ H R) (q : Q (b1 || b2) H) : tOr t u σ H Q := h1 _ (by
  cases b1 with
  | true => exact iteT q
  | false => exact iteF (h2 _ q))
theorem andB {t u : TT} {σ : L2.St} {H : Hp} {Q : Bool → Hp → Prop} (b1 b2 : Bool) (h1 : ∀ R : Bool → Hp → Prop, R b1 H → t σ H R) (h2 : ∀ R : Bool → Hp → Prop, R b2 H → u σ H R) (q : Q (b1 && b2) H) : tAnd t u σ H Q := h1 _ (by
  cases b1 with
  | true => exact iteT (h2 _ q)
  | false => exact iteF q)
theorem catUse {K : PySem.W.Frag} {H : Hp} {Q : VK} {a b : Addr} {xs ys : List V} (ha : SqT K H a xs) (hb : SqT K H b ys) (hl : xs.length + ys.length ≤ 100000) (q : ∀ (r : Addr) (H' : Hp), Same H H' → SqT K H' r (xs ++ ys) → Q (.ref r) H') : rCatA K (.ref a) (.ref b) H Q := by
  refine ⟨a, b, xs, ys, rfl, rfl, ha, hb, Nat.le_trans hl (by decide), fun e => ?_, fun _ e => ?_, fun _ _ p np => ?_⟩
  · refine q b H (Same.refl _) ?_
    rw [e]
    exact hb
  · refine q a H (Same.refl _) ?_
    rw [e, List.append_nil]
    exact ha
  · exact q p _ (sameNew np) (.of upd_same)
end LW

namespace LW
open PySem PySem.Spec PyProof.Rows L2
/-! ### the rows of a program, in their order -/
def rowsOf : D → List D
  | .tup rs => rs
  | _ => []
abbrev Pd := List Nat × D
def plRow (f : List D → List Nat → List Pd) (place : List Nat) (d : D) : List Pd := (place, d) :: (inner d).zipIdx.flatMap fun q => f (rowsOf q.1) (place ++ [q.2])
def plD : Nat → List D → List Nat → List Pd
  | 0, _, _ => []
  | r + 1, rows, ahead => rows.zipIdx.flatMap fun q => plRow (plD r) (ahead ++ [q.2]) q.1
theorem flatTake {β : Type} {rows : List D} {f : D × Nat → List β} {i : Nat} {d : D} (e : rows[i]? = some d) : (rows.take (i + 1)).zipIdx.flatMap f = (rows.take i).zipIdx.flatMap f ++ f (d, i) := by
  obtain ⟨hi, e1⟩ := List.getElem?_eq_some_iff.mp e
  subst e1
  rw [List.take_succ_eq_append_getElem hi, List.zipIdx_append, List.flatMap_append]
  simp [Nat.min_eq_left (Nat.le_of_lt hi)]
theorem zipSum (f : D → Nat) : ∀ (l : List D) (n : Nat), ((l.zipIdx n).map fun q => f q.1).sum = (l.map f).sum
  | [], _ => rfl
  | x :: r, n => by simp [List.zipIdx_cons, zipSum f r (n + 1)]
theorem plLen : ∀ (r : Nat) (rows : List D) (ahead : List Nat), (plD r rows ahead).length = cnt r (.tup rows)
  | 0, _, _ => by simp [plD, cnt]
  | r + 1, rows, ahead => by
    have h : ∀ (x : D) (pl : List Nat), (plD r (rowsOf x) pl).length = cnt r x := by
      intro x pl
      cases x with
      | tup rs => exact plLen r rs pl
      | _ => rw [plLen r]; cases r <;> simp [rowsOf, cnt]
    simp only [plD, cnt, List.length_flatMap, plRow, List.length_cons, h]
    rw [show (rows.zipIdx.map fun a => (((inner a.1).zipIdx.map fun q => cnt r q.1).sum + 1)) = rows.zipIdx.map fun a => (fun d => 1 + ((inner d).map (cnt r)).sum) a.1 from List.map_congr_left fun a _ => by
      rw [zipSum (cnt r), Nat.add_comm]]
    exact zipSum (fun d => 1 + ((inner d).map (cnt r)).sum) rows 0
/-- a row that is well, in its four kinds -/
theorem rowKinds {many : Nat} {d : D} (h : rowOk many d = true) : (∃ b s, d = .tup [.str "put", b, s]) ∨ (∃ w, d = .tup [.str "say", w]) ∨ (∃ w a b, d = .tup [.str "if", w, a, b]) ∨ ∃ w ws b, d = .tup [.str "loop", w, ws, b] := by
  unfold rowOk at h
  split at h
  · rename_i k rest
    unfold restOk at h
    split at h
    · rename_i e
      subst e
      split at h
      · exact .inl ⟨_, _, rfl⟩
      · cases h
    · split at h
      · rename_i e
        subst e
        split at h
        · exact .inr (.inl ⟨_, rfl⟩)
        · cases h
      · split at h
        · rename_i e
          subst e
          split at h
          · exact .inr (.inr (.inl ⟨_, _, _, rfl⟩))
          · cases h
        · split at h
          · rename_i e
            subst e
            split at h
            · exact .inr (.inr (.inr ⟨_, _, _, rfl⟩))
            · cases h
          · cases h
  · cases h
theorem kinds : ("put" : Str) ≠ "if" ∧ ("put" : Str) ≠ "loop" ∧ ("say" : Str) ≠ "if" ∧ ("say" : Str) ≠ "loop" ∧ ("loop" : Str) ≠ "if" ∧ ("if" : Str) ≠ "loop" ∧ ("put" : Str) ≠ "say" := by decide +kernel
theorem in_put {b s : D} : inner (.tup [.str "put", b, s]) = [] := by simp [inner, kinds]
theorem in_say {s : D} : inner (.tup [.str "say", s]) = [] := by simp [inner, kinds]
theorem in_if {s a b : D} : inner (.tup [.str "if", s, a, b]) = [a, b] := by simp [inner]
theorem in_loop {s ws b : D} : inner (.tup [.str "loop", s, ws, b]) = [b] := by simp [inner, kinds]
theorem purePart {ds : List D} (h : D.pures ds = true) {d : D} (m : d ∈ ds) : d.pure = true := by
  induction ds with
  | nil => cases m
  | cons x r ih =>
    simp only [D.pures, Bool.and_eq_true] at h
    rcases List.mem_cons.mp m with e | m
    · exact e ▸ h.1
    · exact ih h.2 m
theorem goodInv {many r : Nat} {x : D} (h : good many r x = true) (p : x.pure = true) : ∃ r' rs, r = r' + 1 ∧ x = .tup rs ∧ ∀ d ∈ rs, GRow many r' d := by
  cases r with
  | zero => simp [good] at h
  | succ r =>
    cases x with
    | tup rs =>
      simp only [good, List.all_eq_true, Bool.and_eq_true] at h
      exact ⟨r, rs, rfl, rfl, fun d hd => ⟨(h d hd).1, purePart p hd, by rw [List.all_eq_true]; exact (h d hd).2⟩⟩
    | _ => simp [good] at h
/-- a row of a drawing, in its four kinds, with what is within -/
theorem gKinds {many r : Nat} {d : D} (h : GRow many r d) : (∃ b s, d = .tup [.str "put", b, s]) ∨ (∃ w, d = .tup [.str "say", w]) ∨
    (∃ r' w a b, r = r' + 1 ∧ d = .tup [.str "if", w, .tup a, .tup b] ∧ (∀ x ∈ a, GRow many r' x) ∧ ∀ x ∈ b, GRow many r' x) ∨ ∃ r' w ws b, r = r' + 1 ∧ d = .tup [.str "loop", w, ws, .tup b] ∧ ∀ x ∈ b, GRow many r' x := by
  obtain ⟨h1, h2, h3⟩ := h
  rcases rowKinds h1 with ⟨b, s, rfl⟩ | ⟨w, rfl⟩ | ⟨w, a, b, rfl⟩ | ⟨w, ws, b, rfl⟩
  · exact .inl ⟨b, s, rfl⟩
  · exact .inr (.inl ⟨w, rfl⟩)
  · rw [in_if] at h3
    simp only [List.all_cons, List.all_nil, Bool.and_true, Bool.and_eq_true] at h3
    have pa : a.pure = true := purePart (ds := [.str "if", w, a, b]) h2 (by simp)
    have pb : b.pure = true := purePart (ds := [.str "if", w, a, b]) h2 (by simp)
    obtain ⟨r', as, e1, rfl, ga⟩ := goodInv h3.1 pa
    obtain ⟨r2, bs, e2, rfl, gb⟩ := goodInv h3.2 pb
    have : r2 = r' := by omega
    subst this
    exact .inr (.inr (.inl ⟨_, w, as, bs, e1, rfl, ga, gb⟩))
  · rw [in_loop] at h3
    simp only [List.all_cons, List.all_nil, Bool.and_true] at h3
    have pb : b.pure = true := purePart (ds := [.str "loop", w, ws, b]) h2 (by simp)
    obtain ⟨r', bs, e1, rfl, gb⟩ := goodInv h3 pb
    exact .inr (.inr (.inr ⟨_, w, ws, bs, e1, rfl, gb⟩))
theorem cntMem {r : Nat} {rows : List D} {d : D} (m : d ∈ rows) : cntRow r d ≤ cnt (r + 1) (.tup rows) := by
  rw [cnt_tup]
  induction rows with
  | nil => cases m
  | cons x t ih =>
    rw [List.map_cons, List.sum_cons]
    rcases List.mem_cons.mp m with e | m
    · subst e; omega
    · have := ih m; omega
theorem cntTake {r : Nat} {rows : List D} {j : Nat} : cnt (r + 1) (.tup (rows.take j)) ≤ cnt (r + 1) (.tup rows) := by
  rw [cnt_tup, cnt_tup]
  induction rows generalizing j with
  | nil => simp
  | cons x t ih =>
    cases j with
    | zero => simp
    | succ j =>
      rw [List.take_succ_cons, List.map_cons, List.sum_cons, List.map_cons, List.sum_cons]
      have := ih (j := j)
      omega
theorem plTake {r : Nat} {rows : List D} {ahead : List Nat} {j : Nat} {d : D} (e : rows[j]? = some d) : plD (r + 1) (rows.take (j + 1)) ahead = plD (r + 1) (rows.take j) ahead ++ plRow (plD r) (ahead ++ [j]) d := flatTake e
theorem plR_put {f : List D → List Nat → List Pd} {place : List Nat} {b s : D} : plRow f place (.tup [.str "put", b, s]) = [(place, .tup [.str "put", b, s])] := by simp [plRow, in_put]
theorem plR_say {f : List D → List Nat → List Pd} {place : List Nat} {s : D} : plRow f place (.tup [.str "say", s]) = [(place, .tup [.str "say", s])] := by simp [plRow, in_say]
theorem plR_if {f : List D → List Nat → List Pd} {place : List Nat} {s : D} {a b : List D} : plRow f place (.tup [.str "if", s, .tup a, .tup b]) = (place, .tup [.str "if", s, .tup a, .tup b]) :: (f a (place ++ [0]) ++ f b (place ++ [1])) := by simp [plRow, in_if, List.zipIdx_cons, rowsOf]
theorem plR_loop {f : List D → List Nat → List Pd} {place : List Nat} {s ws : D} {b : List D} : plRow f place (.tup [.str "loop", s, ws, .tup b]) = (place, .tup [.str "loop", s, ws, .tup b]) :: f b (place ++ [0]) := by simp [plRow, in_loop, List.zipIdx_cons, rowsOf]
/-! ### a list of places and rows -/
def nats (p : List Nat) : List V := p.map fun n => V.int (n : Nat)
def PlIn (K : PySem.W.Frag) (H : Hp) (v : V) (p : Pd) : Prop := ∃ t pa rv, v = .ref t ∧ SqT K H t [.ref pa, rv] ∧ SqT K H pa (nats p.1) ∧ Din K H rv p.2
inductive A2 {α β : Type} (R : α → β → Prop) : List α → List β → Prop
  | nil : A2 R [] []
  | cons {a : α} {b : β} {as : List α} {bs : List β} (h : R a b) (t : A2 R as bs) : A2 R (a :: as) (b :: bs)
section
variable {α β : Type} {R S : α → β → Prop}
theorem A2.app : ∀ {a c : List α} {b d : List β}, A2 R a b → A2 R c d → A2 R (a ++ c) (b ++ d)
  | _, _, _, _, .nil, h => h
  | _, _, _, _, .cons r t, h => .cons r (A2.app t h)
theorem A2.len : ∀ {a : List α} {b : List β}, A2 R a b → a.length = b.length
  | _, _, .nil => rfl
  | _, _, .cons _ t => by rw [List.length_cons, List.length_cons, A2.len t]
theorem A2.map {B' : List β} (f : ∀ a b, b ∈ B' → R a b → S a b) : ∀ {a : List α} {b : List β}, (∀ x ∈ b, x ∈ B') → A2 R a b → A2 S a b
  | _, _, _, .nil => .nil
  | _, _, m, .cons r t => .cons (f _ _ (m _ List.mem_cons_self) r) (A2.map f (fun x hx => m x (List.mem_cons_of_mem _ hx)) t)
theorem A2.at : ∀ {a : List α} {b : List β} {i : Nat} {x : α}, A2 R a b → a[i]? = some x → ∃ y, b[i]? = some y ∧ R x y
  | _, _, _, _, .nil, e => by simp at e
  | _, _, 0, _, .cons h _, e => by
    simp at e
    subst e
    exact ⟨_, rfl, h⟩
  | _, _, i + 1, v, .cons _ t, e => by
    obtain ⟨d, h1, h2⟩ := A2.at (i := i) t (by simpa using e)
    exact ⟨d, by simpa using h1, h2⟩
theorem A2.atR : ∀ {a : List α} {b : List β} {i : Nat} {y : β}, A2 R a b → b[i]? = some y → ∃ x, a[i]? = some x ∧ R x y
  | _, _, _, _, .nil, e => by simp at e
  | _, _, 0, _, .cons h _, e => by
    simp at e
    subst e
    exact ⟨_, rfl, h⟩
  | _, _, i + 1, v, .cons _ t, e => by
    obtain ⟨d, h1, h2⟩ := A2.atR (i := i) t (by simpa using e)
    exact ⟨d, by simpa using h1, h2⟩
end
def PlL (K : PySem.W.Frag) (H : Hp) (vs : List V) (ps : List Pd) : Prop := A2 (PlIn K H) vs ps
theorem plTS {K : PySem.W.Frag} {H H' : Hp} {vs : List V} {ps : List Pd} (e : TS H H') (hp : ∀ p ∈ ps, p.2.pure = true) (h : PlL K H vs ps) : PlL K H' vs ps :=
  A2.map (B' := ps) (fun v p m ⟨t, pa, rv, e0, h1, h2, h3⟩ => ⟨t, pa, rv, e0, tsTup e h1, tsTup e h2, dinTS e (hp p m) h3⟩) (fun _ m => m) h
theorem plPure {many : Nat} : ∀ (r : Nat) (rows : List D) (ahead : List Nat), (∀ d ∈ rows, ∃ r', GRow many r' d) → ∀ p ∈ plD r rows ahead, p.2.pure = true ∧ ∃ r', GRow many r' p.2
  | 0, _, _, _, p, m => by cases m
  | r + 1, rows, ahead, h, p, m => by
    rw [plD, List.mem_flatMap] at m
    obtain ⟨⟨d, i⟩, hm, m⟩ := m
    have hd : d ∈ rows := by
      have := List.mem_zipIdx hm
      simp at this
      rw [this.2]
      exact List.getElem_mem _
    obtain ⟨r', g⟩ := h d hd
    rcases List.mem_cons.mp m with e | m
    · subst e
      exact ⟨g.2.1, r', g⟩
    · rw [List.mem_flatMap] at m
      obtain ⟨⟨x, j⟩, hx, m⟩ := m
      have hxi : x ∈ inner d := by
        have := List.mem_zipIdx hx
        simp at this
        rw [this.2]
        exact List.getElem_mem _
      refine plPure r (rowsOf x) _ (fun y hy => ?_) p m
      rcases gKinds g with ⟨b, s, rfl⟩ | ⟨w, rfl⟩ | ⟨r2, w, a, b, rfl, rfl, ga, gb⟩ | ⟨r2, w, ws, b, rfl, rfl, gb⟩
      · rw [in_put] at hxi; cases hxi
      · rw [in_say] at hxi; cases hxi
      · rw [in_if] at hxi
        rcases List.mem_cons.mp hxi with e | e
        · subst e; exact ⟨_, ga y hy⟩
        · rw [List.mem_singleton.mp e] at hy; exact ⟨_, gb y hy⟩
      · rw [in_loop] at hxi
        rw [List.mem_singleton.mp hxi] at hy
        exact ⟨_, gb y hy⟩
end LW
namespace LW
open PySem PySem.Spec PyProof.Rows L2
/-! ### the row at a place -/
def look1 : D → List Nat → Option D
  | d, [] => some d
  | _, [_] => none
  | d, w :: n :: rest => ((inner d)[w]?).bind fun x => ((rowsOf x)[n]?).bind fun d' => look1 d' rest
def lookR (rows : List D) : List Nat → Option D
  | [] => none
  | n :: rest => (rows[n]?).bind fun d => look1 d rest
theorem plLook : ∀ (r : Nat) (rows : List D) (ahead : List Nat) (p : Pd), p ∈ plD r rows ahead → ∃ rest, p.1 = ahead ++ rest ∧ lookR rows rest = some p.2 ∧ rest.length + 1 ≤ 2 * r
  | 0, _, _, p, m => by cases m
  | r + 1, rows, ahead, p, m => by
    rw [plD, List.mem_flatMap] at m
    obtain ⟨⟨d, n⟩, hm, m⟩ := m
    have hd : rows[n]? = some d := by
      have := List.mem_zipIdx hm
      simp at this
      exact (List.getElem?_eq_getElem this.1).trans (congrArg some this.2.symm)
    rcases List.mem_cons.mp m with e | m
    · subst e
      exact ⟨[n], rfl, by simp [lookR, hd, look1], by simp; omega⟩
    · rw [List.mem_flatMap] at m
      obtain ⟨⟨x, w⟩, hx, m⟩ := m
      have hxi : (inner d)[w]? = some x := by
        have := List.mem_zipIdx hx
        simp at this
        exact (List.getElem?_eq_getElem this.1).trans (congrArg some this.2.symm)
      obtain ⟨rest, e1, e2, e3⟩ := plLook r (rowsOf x) _ p m
      cases rest with
      | nil => cases e2
      | cons k rest =>
        refine ⟨n :: w :: k :: rest, by rw [e1]; simp, ?_, by simp at e3 ⊢; omega⟩
        simp only [lookR, hd, Option.bind_some, look1, hxi] at e2 ⊢
        exact e2
/-- no row of any program -/
def Bad (many : Nat) (d : D) : Prop := ∀ r, (rowOk many d && (inner d).all (good many r)) = false
theorem badNot {many : Nat} {d : D} (h : rowOk many d = false) : Bad many d := fun r => by rw [h]; rfl
theorem badIn {many : Nat} {d x : D} (m : x ∈ inner d) (h : ∀ r, good many r x = false) : Bad many d := fun r => by
  rw [Bool.and_eq_false_iff]
  refine .inr (Bool.eq_false_iff.mpr fun z => ?_)
  rw [List.all_eq_true] at z
  have := z x m
  rw [h r] at this
  cases this
theorem badRows {many : Nat} {ds : List D} {d : D} (m : d ∈ ds) (h : Bad many d) : ∀ r, good many r (.tup ds) = false := fun r => by
  cases r with
  | zero => rfl
  | succ r =>
    refine Bool.eq_false_iff.mpr fun z => ?_
    simp only [good, List.all_eq_true] at z
    have := z d m
    rw [h r] at this
    cases this
theorem slUse {K : PySem.W.Frag} {H : Hp} {Q : VK} {a : Addr} {xs : List V} {lo hi : Option Int} (h : SqT K H a xs) (q : ∀ (r : Addr) (H' : Hp), Same H H' → SqT K H' r (cutV xs lo hi) → Q (.ref r) H') : rSlA K (.ref a) lo hi H Q := by
  refine ⟨a, xs, rfl, h, fun e => q a H (Same.refl _) ?_, fun _ p np => q p _ (sameNew np) (.of upd_same)⟩
  unfold cutV
  rw [e.1, e.2, List.drop_zero, Nat.sub_zero, List.take_length]
  exact h
theorem slUseN {K : PySem.W.Frag} {H : Hp} {σ : L2.St} {Q : VK} {a : Addr} {xs : List V} {lo : Option Int} (h : SqT K H a xs) (q : ∀ (r : Addr) (H' : Hp), Same H H' → SqT K H' r (cutV xs lo none) → Q (.ref r) H') : tNoPart σ H fun u H3 => rSlA K (.ref a) lo u H3 Q := slUse h q
theorem cutTake {xs : List V} (n : Nat) : cutV xs none (some (n : Int)) = xs.take n := by
  unfold cutV
  rw [HT.sIx_none, HT.sIx_nat, List.drop_zero, Nat.sub_zero]
  rcases Nat.le_total n xs.length with h | h
  · rw [Nat.min_eq_left h]
  · rw [Nat.min_eq_right h, List.take_length, List.take_of_length_le h]
theorem cutDrop {xs : List V} (n : Nat) : cutV xs (some (n : Int)) none = xs.drop n := by
  unfold cutV
  rw [HT.sIx_none, HT.sIx_nat]
  rcases Nat.le_total n xs.length with h | h
  · rw [Nat.min_eq_left h, List.take_of_length_le (by simp)]
  · rw [Nat.min_eq_right h, Nat.sub_self, List.take_zero, List.drop_eq_nil_of_le h]
/-! data stands while a list is changed -/
section
variable {K : PySem.W.Frag} {H : Hp} {L : Addr} {xs ys : List V}
mutual
theorem dinMut (e : H L = some (.lst xs)) : ∀ {d : D} {v : V}, Din K H v d → Din K (upd H L (.lst ys)) v d
  | .non, _, .non => .non
  | .bl _, _, .bl b => .bl b
  | .int _, _, .int i => .int i
  | .str _, _, .str s => .str s
  | .lst, _, .lst (a := a) h => by
    by_cases z : a = L
    · subst z
      exact .lst (.of upd_same)
    · rcases h with (h | ⟨o, h⟩) | h
      · exact .lst (.inl (.inl (by rw [upd_ne z]; exact h)))
      · exact .lst (.inl (.inr ⟨o, by rw [upd_ne z]; exact h⟩))
      · exact .lst (.inr h)
  | .dct, _, .dct (a := a) h => .dct (by rw [upd_ne (fun z => by rw [z, e] at h; cases h)]; exact h)
  | .tup ds, _, .tup h t => .tup (tsTup (tsLst e) h) (dinAMut e t)
theorem dinAMut (e : H L = some (.lst xs)) : ∀ {ds : List D} {vs : List V}, DinA K H vs ds → DinA K (upd H L (.lst ys)) vs ds
  | [], _, .nil => .nil
  | _ :: _, _, .cons h t => .cons (dinMut e h) (dinAMut e t)
end
end
end LW

namespace LW
open PySem PySem.Spec PyProof.Rows L2
theorem tuple_mul1 (l : Addr) (items : Array Value) (n : Nat) (dd : Option Addr) (sl : Array (Option Value)) (x : Int) (u : Tok) (c0 : (decide (x < -(2 ^ 63)) || decide (x ≥ 2 ^ 63)) = false) (c1 : (items.isEmpty || x == 1) = true) :
    Meets (Builtin.«tuple.__mul__» ⟨[.ref l, .int x u], []⟩) (fun _ R s => s.heap.get? l = some { cls := .type "tuple", dict := dd, data := .seq items n, slots := sl } ∧
      R (.ok (.ret (Value.ref l))) s) :=
  .of_wp fun prog w A R s h => by
    obtain ⟨hp, g, d, tk, os⟩ := s
    obtain ⟨hl, h⟩ := h
    have f1 := AutoSeq1.idx_int
    wp_walk using wpAny_loadPart' hl
    repeat (first
      | (refine wpAny_ite_false (decide_eq_false (by rw [c0]; exact Bool.false_ne_true)) ?_; wp_walk using wpAny_loadPart' hl)
      | (refine wpAny_ite_true (decide_eq_true (by rw [c1])) ?_; wp_walk using wpAny_loadPart' hl))
    exact ⟨_, rfl, h⟩
def rRepA (K : PySem.W.Frag) : R2 := fun x y H Q => ∃ l k xs, x = .ref l ∧ y = .int k ∧ SqT K H l xs ∧ xs ≠ [] ∧ 1 ≤ k ∧ k ≤ 1000 ∧ xs.length ≤ 1000 ∧ (k = 1 → Q (.ref l) H) ∧ (2 ≤ k → ∀ p, H p = none → Q (.ref p) (upd H p (.tup (List.replicate k.toNat xs).flatten)))
theorem op_repA {X : Cx} : OpR X (binaryOp .Mult) (rRepA X.K) := by
  intro pins s σ H x y v u Q I rx ry h
  obtain ⟨l, k, xs, rfl, rfl, hT, hne, h1, h2, hz, q1, q2⟩ := h
  by_cases hk : k = 1
  · subst hk
    have hT0 := hT
    have rx0 := rx
    cases rx
    obtain ⟨t, rfl⟩ := ry
    obtain ⟨its, r, ⟨⟨cls, dd, data, sl⟩, ho, hc, n, hd⟩, hs⟩ := I.tuple hT
    simp only at hc hd
    subst hc hd
    refine wpAny_binaryOp_repeat_ref (T := "tuple") (U := "int") (by decide) ⟨_, ho, rfl⟩ (fun s' => typeIs_int s' 1 t) noFill_tuple_mul F.fills_int_mul F.slot_int_rmul repeat_tuple F.slot_int_index.lookup
      (call_meets F.slot_int_rmul (typeIs_int s 1 t) F.entry_int_rmul (F.args_int_rmul_2 _ _) (int_rmul_tuple 1 t l its.toArray n dd sl)
        ⟨ho, rfl, ⟨_, ho, rfl⟩, call_meets F.slot_tuple_mul ⟨_, ho, rfl⟩ F.entry_tuple_mul (F.args_tuple_mul_2 _ _) (tuple_mul1 l its.toArray n dd sl 1 t (by decide) (by rw [Bool.or_eq_true]; exact .inr rfl)) ⟨ho, ?_⟩⟩)
    exact ⟨.ref l, H, I, rfl, q1 rfl⟩
  · exact op_repT pins s σ H (.ref l) (.int k) v u Q I rx ry ⟨l, k, xs, rfl, rfl, hT, hne, by omega, h2, hz, q2 (by omega)⟩
theorem kRepA {X : Cx} {K : PySem.W.Frag} (h : X.K = K) : OpR X (binaryOp .Mult) (rRepA K) := by subst h; exact op_repA
theorem repUse {K : PySem.W.Frag} {H : Hp} {Q : VK} {a : Addr} {v : V} {n : Nat} (h : SqT K H a [v]) (h1 : 1 ≤ n) (h2 : n ≤ 1000) (q : ∀ (r : Addr) (H' : Hp), Same H H' → SqT K H' r (List.replicate n v) → Q (.ref r) H') : rRepA K (.ref a) (.int (n : Int)) H Q := by
  refine ⟨a, n, [v], rfl, rfl, h, by simp, by omega, by omega, by simp, fun e => ?_, fun e p np => ?_⟩
  · have : n = 1 := by omega
    subst this
    exact q a H (Same.refl _) h
  · refine q p _ (sameNew np) (.of ?_)
    rw [upd_same, show ((n : Int)).toNat = n by omega]
    simp
theorem repUseC {K : PySem.W.Frag} {H : Hp} {σ : L2.St} {Q : VK} {a : Addr} {v : V} {n : Nat} (h : SqT K H a [v]) (h1 : 1 ≤ n) (h2 : n ≤ 1000) (q : ∀ (r : Addr) (H' : Hp), Same H H' → SqT K H' r (List.replicate n v) → Q (.ref r) H') : tC (.int (n : Int)) σ H fun y H3 => rRepA K (.ref a) y H3 Q := repUse h h1 h2 q
end LW

namespace LW
open PySem PySem.Spec PyProof.Rows L2
/-! ### data to compare -/
mutual
def toPy : D → PyData
  | .non => .none
  | .bl b => .bool b
  | .int i => .int i
  | .str s => .str s
  | .lst => .none
  | .dct => .none
  | .tup ds => .tuple (toPys ds)
def toPys : List D → List PyData
  | [] => []
  | d :: r => toPy d :: toPys r
end
section
variable {K : PySem.W.Frag} {H : Hp}
mutual
theorem dpD : ∀ {d : D} {v : V}, d.pure = true → Din K H v d → Dp K H v (toPy d)
  | .non, _, _, .non => .non
  | .bl _, _, _, .bl b => .bl b
  | .int _, _, _, .int i => .int i
  | .str _, _, _, .str s => .str s
  | .lst, _, p, _ => by simp [D.pure] at p
  | .dct, _, p, _ => by simp [D.pure] at p
  | .tup ds, _, p, .tup h t => .tup h (dpDA (by simpa [D.pure] using p) t)
theorem dpDA : ∀ {ds : List D} {vs : List V}, D.pures ds = true → DinA K H vs ds → DpAll K H vs (toPys ds)
  | [], _, _, .nil => .nil
  | _ :: _, _, p, .cons h t => by
    simp only [D.pures, Bool.and_eq_true] at p
    exact .cons (dpD p.1 h) (dpDA p.2 t)
end
end
theorem toPys_map : ∀ ds : List D, toPys ds = ds.map toPy
  | [] => rfl
  | d :: r => by rw [toPys, toPys_map r]; rfl
theorem toPy_sum (s : Sm) : toPy (dSm s) = dS s := by
  have key : ∀ ns : List Int, toPys (ns.map D.int) = dI ns := by
    intro ns
    induction ns with
    | nil => rfl
    | cons n r ih =>
      rw [List.map_cons, toPys, ih]
      rfl
  simp [dSm, toPy, toPys, key, dS]
theorem numInv {d : D} {lo hi : Int} (h : fromTo d lo hi = true) : ∃ i, d = .int i ∧ lo ≤ i ∧ i ≤ hi := by
  unfold fromTo at h
  split at h
  · simp only [Bool.and_eq_true, decide_eq_true_eq] at h
    exact ⟨_, rfl, h.1, h.2⟩
  · cases h
theorem sumInv {many : Nat} {d : D} (h : sumOk many d = true) : ∃ sm, d = dSm sm ∧ SumW many sm := by
  unfold sumOk at h
  split at h
  · rename_i ns l
    simp only [Bool.and_eq_true, decide_eq_true_eq, List.all_eq_true] at h
    obtain ⟨⟨h1, h2⟩, h3⟩ := h
    obtain ⟨i, rfl, l1, l2⟩ := numInv h3
    have key : ∀ ns : List D, (∀ x ∈ ns, fromTo x (-9) 9 = true) → ∃ ks : List Int, ns = ks.map D.int ∧ ∀ k ∈ ks, -9 ≤ k ∧ k ≤ 9 := by
      intro ns
      induction ns with
      | nil => exact fun _ => ⟨[], rfl, fun k hk => by cases hk⟩
      | cons x t ih =>
        intro hx
        obtain ⟨k, rfl, k1, k2⟩ := numInv (hx x List.mem_cons_self)
        obtain ⟨ks, rfl, hks⟩ := ih fun y hy => hx y (List.mem_cons_of_mem _ hy)
        refine ⟨k :: ks, rfl, fun z hz => ?_⟩
        rcases List.mem_cons.mp hz with rfl | hz
        · exact ⟨k1, k2⟩
        · exact hks z hz
    obtain ⟨ks, rfl, hks⟩ := key ns h2
    exact ⟨(ks, i), rfl, by simpa using h1, hks, l1, l2⟩
  · cases h
theorem lyStr {s : Str} (h : (PyData.str s).canLay0 = true) : Ly 1 (.str s) := ⟨h, by simp [PyData.depth]⟩
theorem lyKinds : (PyData.str "put").canLay0 = true ∧ (PyData.str "say").canLay0 = true ∧ (PyData.str "if").canLay0 = true ∧ (PyData.str "loop").canLay0 = true := by decide +kernel
theorem lyAll {n : Nat} : ∀ {ds : List PyData}, (∀ d ∈ ds, Ly n d) → LyA n ds
  | [], _ => lyNil n
  | d :: r, h => lyCons (h d List.mem_cons_self) (lyAll fun x hx => h x (List.mem_cons_of_mem _ hx))
theorem rowKinds' {many : Nat} {d : D} (h : rowOk many d = true) : (∃ (i : Int) (s : Sm), d = .tup [.str "put", .int i, dSm s] ∧ 0 ≤ i ∧ i ≤ (many : Int) - 1 ∧ SumW many s) ∨ (∃ s : Sm, d = .tup [.str "say", dSm s] ∧ SumW many s) ∨
    (∃ (s : Sm) (a b : D), d = .tup [.str "if", dSm s, a, b] ∧ SumW many s) ∨ ∃ (s : Sm) (wl : List Sm) (b : D), d = .tup [.str "loop", dSm s, .tup (wl.map dSm), b] ∧ SumW many s ∧ (∀ w ∈ wl, SumW many w) ∧ wl.length ≤ 3 := by
  have kd : ("put" : Str) ≠ "if" ∧ ("put" : Str) ≠ "loop" ∧ ("say" : Str) ≠ "if" ∧ ("say" : Str) ≠ "loop" ∧ ("loop" : Str) ≠ "if" ∧ ("if" : Str) ≠ "loop" ∧ ("say" : Str) ≠ "put" ∧ ("if" : Str) ≠ "put" ∧ ("loop" : Str) ≠ "put" ∧ ("if" : Str) ≠ "say" ∧ ("loop" : Str) ≠ "say" := by decide +kernel
  rcases rowKinds h with ⟨b, s, rfl⟩ | ⟨w, rfl⟩ | ⟨w, a, b, rfl⟩ | ⟨w, ws, b, rfl⟩
  · simp only [rowOk, restOk, if_true, Bool.and_eq_true] at h
    obtain ⟨i, rfl, i0, i1⟩ := numInv h.1
    obtain ⟨sm, rfl, hw⟩ := sumInv h.2
    exact .inl ⟨i, sm, rfl, i0, i1, hw⟩
  · have h : sumOk many w = true := by simpa [rowOk, restOk, kd] using h
    obtain ⟨sm, rfl, hw⟩ := sumInv h
    exact .inr (.inl ⟨sm, rfl, hw⟩)
  · have h : sumOk many w = true := by simpa [rowOk, restOk, kd] using h
    obtain ⟨sm, rfl, hw⟩ := sumInv h
    exact .inr (.inr (.inl ⟨sm, a, b, rfl, hw⟩))
  · have h : sumOk many w = true ∧ wordsOk many ws = true := by simpa [rowOk, restOk, kd] using h
    obtain ⟨sm, rfl, hw⟩ := sumInv h.1
    have h2 := h.2
    cases ws with
    | tup l =>
      unfold wordsOk at h2
      simp only [Bool.and_eq_true, decide_eq_true_eq, List.all_eq_true] at h2
      have key : ∀ l : List D, (∀ x ∈ l, sumOk many x = true) → ∃ wl : List Sm, l = wl.map dSm ∧ ∀ w ∈ wl, SumW many w := by
        intro l
        induction l with
        | nil => exact fun _ => ⟨[], rfl, fun k hk => by cases hk⟩
        | cons x t ih =>
          intro hx
          obtain ⟨k, rfl, k1⟩ := sumInv (hx x List.mem_cons_self)
          obtain ⟨ks, rfl, hks⟩ := ih fun y hy => hx y (List.mem_cons_of_mem _ hy)
          refine ⟨k :: ks, rfl, fun z hz => ?_⟩
          rcases List.mem_cons.mp hz with rfl | hz
          · exact k1
          · exact hks z hz
      obtain ⟨wl, rfl, hwl⟩ := key l h2.2
      exact .inr (.inr (.inr ⟨sm, wl, b, rfl, hw, hwl, by simpa using h2.1⟩))
    | _ => cases h2
theorem lySum' (s : Sm) : Ly 3 (toPy (dSm s)) := by rw [toPy_sum]; exact lySum s
theorem lyRow {many : Nat} : ∀ (r : Nat) {d : D}, GRow many r d → Ly (5 + 2 * r) (toPy d) := by
  intro r
  induction r with
  | zero =>
    intro d g
    rcases gKinds g with ⟨b, s, e⟩ | ⟨w, e⟩ | ⟨r', w, a, b, e, _⟩ | ⟨r', w, ws, b, e, _⟩
    · rcases rowKinds' g.1 with ⟨i, sm, rfl, _⟩ | ⟨sm, rfl, _⟩ | ⟨sm, a, b, rfl, _⟩ | ⟨sm, wl, b, rfl, _⟩
      · simp only [toPy, toPys]
        exact (lyTup (lyCons ((lyStr lyKinds.1).up (by omega)) (lyCons ((lyInt i).up (by omega)) (lyCons (lySum' sm) (lyNil _))))).up (by omega)
      · cases e
      · cases e
      · cases e
    · rcases rowKinds' g.1 with ⟨i, sm, rfl, _⟩ | ⟨sm, rfl, _⟩ | ⟨sm, a, b, rfl, _⟩ | ⟨sm, wl, b, rfl, _⟩
      · cases e
      · simp only [toPy, toPys]
        exact (lyTup (lyCons ((lyStr lyKinds.2.1).up (by omega)) (lyCons (lySum' sm) (lyNil _)))).up (by omega)
      · cases e
      · cases e
    · cases e
    · cases e
  | succ r ih =>
    intro d g
    have rowsLy : ∀ rs : List D, (∀ x ∈ rs, GRow many r x) → Ly (6 + 2 * r) (toPy (.tup rs)) := fun rs h => by
      simp only [toPy]
      refine (lyTup (n := 5 + 2 * r) (lyAll fun y hy => ?_)).up (by omega)
      rw [toPys_map] at hy
      obtain ⟨x, hx, rfl⟩ := List.mem_map.mp hy
      exact ih (h x hx)
    rcases gKinds g with ⟨b, s, e⟩ | ⟨w, e⟩ | ⟨r', w, a, b, e, e2, ga, gb⟩ | ⟨r', w, ws, b, e, e2, gb⟩
    · rcases rowKinds' g.1 with ⟨i, sm, rfl, _⟩ | ⟨sm, rfl, _⟩ | ⟨sm, a, b, rfl, _⟩ | ⟨sm, wl, b, rfl, _⟩
      · simp only [toPy, toPys]
        exact (lyTup (lyCons ((lyStr lyKinds.1).up (by omega)) (lyCons ((lyInt i).up (by omega)) (lyCons (lySum' sm) (lyNil _))))).up (by omega)
      · cases e
      · cases e
      · cases e
    · rcases rowKinds' g.1 with ⟨i, sm, rfl, _⟩ | ⟨sm, rfl, _⟩ | ⟨sm, a, b, rfl, _⟩ | ⟨sm, wl, b, rfl, _⟩
      · cases e
      · simp only [toPy, toPys]
        exact (lyTup (lyCons ((lyStr lyKinds.2.1).up (by omega)) (lyCons (lySum' sm) (lyNil _)))).up (by omega)
      · cases e
      · cases e
    · have : r' = r := by omega
      subst this
      subst e2
      rcases rowKinds' g.1 with ⟨i, sm, e3, _⟩ | ⟨sm, e3, _⟩ | ⟨sm, a2, b2, e3, _⟩ | ⟨sm, wl, b2, e3, _⟩
      · cases e3
      · cases e3
      · cases e3
        rw [toPy, toPys, toPys, toPys, toPys, toPys]
        exact (lyTup (n := 6 + 2 * r') (lyCons ((lyStr lyKinds.2.2.1).up (by omega)) (lyCons ((lySum' sm).up (by omega)) (lyCons (rowsLy a ga) (lyCons (rowsLy b gb) (lyNil _)))))).up (by omega)
      · injection e3 with e3
        injection e3 with e3 _
        injection e3 with e3
        exact absurd e3 kinds.2.2.2.2.2.1
    · have : r' = r := by omega
      subst this
      subst e2
      rcases rowKinds' g.1 with ⟨i, sm, e3, _⟩ | ⟨sm, e3, _⟩ | ⟨sm, a2, b2, e3, _⟩ | ⟨sm, wl, b2, e3, _⟩
      · cases e3
      · cases e3
      · injection e3 with e3
        injection e3 with e3 _
        injection e3 with e3
        exact absurd e3 kinds.2.2.2.2.1
      · cases e3
        rw [toPy, toPys, toPys, toPys, toPys, toPys]
        have wly : Ly 4 (toPy (.tup (wl.map dSm))) := by
          rw [toPy]
          refine lyTup (lyAll fun y hy => ?_)
          rw [toPys_map] at hy
          obtain ⟨x, hx, rfl⟩ := List.mem_map.mp hy
          obtain ⟨s, _, rfl⟩ := List.mem_map.mp hx
          exact lySum' s
        exact (lyTup (n := 6 + 2 * r') (lyCons ((lyStr lyKinds.2.2.2).up (by omega)) (lyCons ((lySum' sm).up (by omega)) (lyCons (wly.up (by omega)) (lyCons (rowsLy b gb) (lyNil _)))))).up (by omega)
theorem lyRows {many r : Nat} {rs : List D} (h : ∀ x ∈ rs, GRow many r x) : Ly (6 + 2 * r) (toPy (.tup rs)) := by
  rw [toPy]
  refine (lyTup (n := 5 + 2 * r) (lyAll fun y hy => ?_)).up (by omega)
  rw [toPys_map] at hy
  obtain ⟨x, hx, rfl⟩ := List.mem_map.mp hy
  exact lyRow r (h x hx)
def dPl (p : List Nat) : PyData := .tuple (p.map fun (n : Nat) => PyData.int (n : Int))
theorem dpNats {K : PySem.W.Frag} {H : Hp} : ∀ p : List Nat, DpAll K H (nats p) (p.map fun (n : Nat) => PyData.int (n : Int))
  | [] => .nil
  | n :: r => .cons (.int n) (dpNats r)
theorem lyPl (p : List Nat) : Ly 2 (dPl p) := lyTup (lyAll fun d hd => by
  obtain ⟨n, _, rfl⟩ := List.mem_map.mp hd
  exact lyInt n)
def dPd (p : Pd) : PyData := .tuple [dPl p.1, toPy p.2]
theorem dpPd {K : PySem.W.Frag} {H : Hp} {v : V} {p : Pd} (hp : p.2.pure = true) (h : PlIn K H v p) : Dp K H v (dPd p) := by
  obtain ⟨t, pa, rv, rfl, h1, h2, h3⟩ := h
  exact .tup h1 (.cons (.tup h2 (dpNats _)) (.cons (dpD hp h3) .nil))
theorem dpPds {K : PySem.W.Frag} {H : Hp} : ∀ {vs : List V} {ps : List Pd}, (∀ p ∈ ps, p.2.pure = true) → PlL K H vs ps → DpAll K H vs (ps.map dPd)
  | _, _, _, .nil => .nil
  | _, _, hp, .cons r t => .cons (dpPd (hp _ List.mem_cons_self) r) (dpPds (fun p hm => hp p (List.mem_cons_of_mem _ hm)) t)
theorem GRow.up {many : Nat} : ∀ {r r' : Nat} {d : D}, GRow many r d → r ≤ r' → GRow many r' d := by
  have gup : ∀ (r : Nat) (d : D), good many r d = true → good many (r + 1) d = true := by
    intro r
    induction r with
    | zero => intro d h; simp [good] at h
    | succ r ih =>
      intro d h
      cases d with
      | tup rows =>
        rw [good, List.all_eq_true] at h ⊢
        intro x hx
        have := h x hx
        rw [Bool.and_eq_true] at this ⊢
        refine ⟨this.1, ?_⟩
        rw [List.all_eq_true]
        intro y hy
        exact ih y (List.all_eq_true.mp this.2 y hy)
      | _ => simp [good] at h
  intro r r' d h l
  obtain ⟨k, rfl⟩ : ∃ k, r' = r + k := ⟨r' - r, by omega⟩
  clear l
  induction k with
  | zero => exact h
  | succ k ih =>
    refine ⟨ih.1, ih.2.1, ?_⟩
    rw [List.all_eq_true]
    exact fun y hy => gup _ y (List.all_eq_true.mp ih.2.2 y hy)
theorem plGood {many m : Nat} : ∀ (r : Nat) (rows : List D) (ahead : List Nat), (∀ d ∈ rows, GRow many m d) → ∀ p ∈ plD r rows ahead, GRow many m p.2
  | 0, _, _, _, p, h => by cases h
  | r + 1, rows, ahead, h, p, hp => by
    rw [plD, List.mem_flatMap] at hp
    obtain ⟨⟨d, i⟩, hm, hp⟩ := hp
    have hd : d ∈ rows := by
      have := List.mem_zipIdx hm
      simp at this
      rw [this.2]
      exact List.getElem_mem _
    have g := h d hd
    rcases List.mem_cons.mp hp with e | hp
    · subst e
      exact g
    · rw [List.mem_flatMap] at hp
      obtain ⟨⟨x, j⟩, hx, hp⟩ := hp
      have hxi : x ∈ inner d := by
        have := List.mem_zipIdx hx
        simp at this
        rw [this.2]
        exact List.getElem_mem _
      refine plGood r (rowsOf x) _ (fun y hy => ?_) p hp
      rcases gKinds g with ⟨b, s, rfl⟩ | ⟨w, rfl⟩ | ⟨r2, w, a, b, e, rfl, ga, gb⟩ | ⟨r2, w, ws, b, e, rfl, gb⟩
      · rw [in_put] at hxi; cases hxi
      · rw [in_say] at hxi; cases hxi
      · rw [in_if] at hxi
        rcases List.mem_cons.mp hxi with e2 | e2
        · subst e2; exact (ga y hy).up (by omega)
        · rw [List.mem_singleton.mp e2] at hy; exact (gb y hy).up (by omega)
      · rw [in_loop] at hxi
        rw [List.mem_singleton.mp hxi] at hy
        exact (gb y hy).up (by omega)
theorem lyPd {many : Nat} {p : Pd} (h : GRow many 3 p.2) : Ly 12 (dPd p) := (lyTup (n := 11) (lyCons ((lyPl p.1).up (by decide)) (lyCons ((lyRow 3 h).up (by decide)) (lyNil _)))).up (by decide)
theorem lyPds {many : Nat} {ps : List Pd} (h : ∀ p ∈ ps, GRow many 3 p.2) : Ly 13 (.list (ps.map dPd)) := lyLst (lyAll fun d hd => by
  obtain ⟨p, hp, rfl⟩ := List.mem_map.mp hd
  exact lyPd (h p hp))
end LW

namespace LW
open PySem PySem.Spec PyProof.Rows L2
def topS (i : Nat) : Stmt := PySem.Challenge.pw_loopwords_k02_programs.main.body.getD i (.Pass ⟨0, 0, 0, 0⟩)

local macro_rules | `(tactic| walk_at "go1") => `(tactic| first
  | refine ⟨_, rfl, ?_⟩
  | refine ⟨_, _, rfl, rfl, ?_⟩
  | refine ⟨show (0 : Int) < _ from by omega, ?_⟩
  | refine ⟨show CMul _ _ from by first | exact .inl ⟨by omega, by omega⟩ | exact .inr ⟨by omega, by omega⟩, ?_⟩
  | refine ⟨show CDiv _ _ from ⟨by omega, by omega⟩, ?_⟩)
local macro_rules | `(tactic| walk_at "go") => `(tactic| repeat walk_at "go1")

section
variable {P : Program} {w : World} {K : PySem.W.Frag} {mg : Str → Option Value} {base : Heap}

/-! ### calls that may raise -/
structure CalX (P : Program) (w : World) (K : PySem.W.Frag) (mg : Str → Option Value) (base : Heap) (k : Nat) (x : Str) (sp : Sp) : Prop where
  ex : ∃ (f : Addr) (fd : FuncData) (ps : List Str), FnOk P w K mg base (L2.CX P w) k f fd ps sp ∧ mg x = some (.ref f) ∧ PySem.W.keepIn K (.ref f) = true ∧ Binds K fd ps []
theorem cX {X : Cx} {k j : Nat} {x : Str} {sp : Sp} {E : XK} {p pos : Pos} {e : Expr} {es : List Expr} {t : TA} (c : CalX X.prog X.w X.K X.mg X.base k x sp) (hr : Room j X.A) (hk : k ≤ j) (hg : Gl X x) (hx : Passes (L2.CX X.prog X.w) X E) (ha : PA X (e :: es) t)
    (hdb : (x == ("__debug__" : Str)) = false := by decide) (he : starEach (e :: es) X.env = (false, eval e X.env) :: starEach es X.env := by rfl) (hpl : (backTo pos (starEach es X.env)).any (·.1) = false := by rfl) :
    PE X (.Call (.Name x p) (e :: es) [] pos) (tCall sp [] E t) := by
  obtain ⟨f, fd, ps, F, hm, kp, b⟩ := c.ex
  exact pe_call F (hr.mono hk) hg hm kp b .nil hx ha hdb he hpl
/-- an own exception class over ValueError -/
structure ExF (K : PySem.W.Frag) (mg : Str → Option Value) (x : Str) (C : Addr) : Prop where
  xP : PySem.W.excIn K C [.type "ValueError", .type "Exception", .type "BaseException", .type "object"] "ValueError.__new__" = true
  gP : mg x = some (.ref C)
  kP : PySem.W.keepIn K (.ref C) = true
  bP : PySem.W.subIn K (.ref C) (.type "BaseException") = some true
  tP : PySem.W.typeIn K (.ref C) = some (.type "type")
/-- the module's numbers -/
structure Cs (mg : Str → Option Value) : Prop where
  MOST_BOXES : ∃ u, mg "MOST_BOXES" = some u ∧ RelV (.int 3) u
  HIGHEST_TOP : ∃ u, mg "HIGHEST_TOP" = some u ∧ RelV (.int 9) u
  MOST_ROWS : ∃ u, mg "MOST_ROWS" = some u ∧ RelV (.int 12) u
  MOST_WITHIN : ∃ u, mg "MOST_WITHIN" = some u ∧ RelV (.int 3) u
  MOST_KEPT : ∃ u, mg "MOST_KEPT" = some u ∧ RelV (.int 3) u
  HIGHEST_NUMBER : ∃ u, mg "HIGHEST_NUMBER" = some u ∧ RelV (.int 9) u
  HIGHEST_LAST : ∃ u, mg "HIGHEST_LAST" = some u ∧ RelV (.int 99) u

abbrev s__is_from_to : Stmt := topS 24
theorem sc__is_from_to : FnScope ["number", "least", "most"] ["number", "least", "most"] (defScope s__is_from_to) := ⟨rfl, rfl, rfl, by decide +kernel, rfl, by decide +kernel, by decide +kernel⟩

def spFT (K : PySem.W.Frag) : Sp := fun vs H Q _ => ∃ (v : V) (d : D) (lo hi : Int), vs = [v, .int lo, .int hi] ∧ Din K H v d ∧ Q (.bl (fromTo d lo hi)) H
theorem ok__is_from_to {f : Addr} {fd : FuncData} {k : Nat} (F : Fun K "_is_from_to" "_is_from_to" s__is_from_to f fd) (B : Bl mg) : FnOk P w K mg base CX0 (k + 1) f fd ["number", "least", "most"] (spFT K) := by
  refine F.ok sc__is_from_to (fun vs H Q E h => ?_) (fun cdv A outer s H vs Q E hr h => ?_)
  · obtain ⟨v, d, lo, hi, rfl, _⟩ := h
    rfl
  obtain ⟨v, d, lo, hi, rfl, hd, q⟩ := h
  refine ⟨_, (pss_one (ps_ret (pe_and (pe_cmpR kEqTy (pe_callTy (kType (K := K) rfl) (by rfl) B.type (by decide +kernel) (pa_cons (pv 0) pa_nil)) (pe_bltn (v := .ty "int") (by rfl) B.int (by decide +kernel) rfl) (nomark _)) (pe_one (pe_chain op_le op_le (pv 1) (pv 0) (pv 2)))))), ?_⟩
  refine ⟨_, rfl, _, _, rfl, dinTy hd, _, _, rfl, rfl, (dinTy hd).known, .int, _, rfl, ?_⟩
  rw [decInt]
  cases hd with
  | int i =>
    refine iteT ?_
    refine ⟨_, rfl, _, rfl, _, _, rfl, rfl, _, rfl, ?_⟩
    have q' : Q (.bl (decide (lo ≤ i) && decide (i ≤ hi))) H := q
    refine ifB (fun c => ?_) (fun c => ?_)
    · refine ⟨_, rfl, _, _, rfl, rfl, ?_⟩
      rw [c, Bool.true_and] at q'
      exact q'
    · rw [c, Bool.false_and] at q'
      exact q'
  | _ => exact iteF q
abbrev s__is_sum : Stmt := topS 23
theorem sc__is_sum : FnScope ["one", "many", "numbers", "last", "number"] ["one", "many"] (defScope s__is_sum) := ⟨rfl, rfl, rfl, by decide +kernel, rfl, by decide +kernel, by decide +kernel⟩

def spIsS (K : PySem.W.Frag) : Sp := fun vs H Q _ => ∃ (v : V) (d : D) (many : Nat), vs = [v, .int (many : Int)] ∧ Din K H v d ∧ many ≤ 1000 ∧ ∀ H', Same H H' → Q (.bl (sumOk many d)) H'
theorem ok__is_sum {f : Addr} {fd : FuncData} {k : Nat} (F : Fun K "_is_sum" "_is_sum" s__is_sum f fd) (B : Bl mg) (T : Cs mg) (c__is_from_to : C8.Cal P w K mg base k "_is_from_to" (spFT K) []) : FnOk P w K mg base CX0 (k + 1) f fd ["one", "many"] (spIsS K) := by
  refine F.ok sc__is_sum (fun vs H Q E h => ?_) (fun cdv A outer s H vs Q E hr h => ?_)
  · obtain ⟨v, d, many, rfl, _⟩ := h
    rfl
  obtain ⟨v, d, many, rfl, hd, hm, q⟩ := h
  refine ⟨_, (pss_cons (ps_if (PW.pt (pw_or (pt_cmpR kNeTy (pe_callTy (kType (K := K) rfl) (by rfl) B.type (by decide +kernel) (pa_cons (pv 0) pa_nil)) (pe_bltn (v := .ty "tuple") (by rfl) B.tuple (by decide +kernel) rfl) (nomark _)) (pw_or1 (pt_cmpR op_ne (pe_callB (kLen (K := K) rfl) (by rfl) B.len PySem.boot_len (pa_cons (pv 0) pa_nil)) pe_int (nomark _)))))
      (pss_one (ps_ret pe_bl))
      pss_nil)
    (pss_cons (ps_asg (pv 0) (kT2 (K := K) rfl rfl (pg_name (i := 2) sc__is_sum.nd rfl (.inl rfl)) (pg_name (i := 3) sc__is_sum.nd rfl (.inl rfl))))
    (pss_cons (ps_if (PW.pt (pw_or (pt_cmpR kNeTy (pe_callTy (kType (K := K) rfl) (by rfl) B.type (by decide +kernel) (pa_cons (pv 2) pa_nil)) (pe_bltn (v := .ty "tuple") (by rfl) B.tuple (by decide +kernel) rfl) (nomark _)) (pw_or1 (pt_cmpR op_ne (pe_callB (kLen (K := K) rfl) (by rfl) B.len PySem.boot_len (pa_cons (pv 2) pa_nil)) (pv 1) (nomark _)))))
      (pss_one (ps_ret pe_bl))
      pss_nil)
    (pss_cons (ps_if (pt_not (pt_val (pe_callB (kAll (K := K) rfl rfl) (by rfl) B.all (by decide +kernel) (pa_cons (pe_lc (own := [("number", 4)]) rfl sc__is_sum.nd (kTup_ (K := K) rfl (pv 2)) (blkOk_by (own := [("number", 4)]) (N := ["one", "many", "numbers", "last", "number"]) (sc := defScope s__is_sum) (by decide +kernel)) (fun _ _ _ _ _ => (pgN (i := 4) sc__is_sum.nd rfl (.inl rfl) (.inr rfl))) (fun _ _ _ _ _ => pts_nil) (fun _ _ _ _ _ => (C8.pe_c c__is_from_to hr (Nat.le_refl _) (by rfl) (pa_cons (pv 4) (pa_cons (pe_un un_neg (C8.pe_gc (by rfl) T.HIGHEST_NUMBER)) (pa_cons (C8.pe_gc (by rfl) T.HIGHEST_NUMBER) pa_nil)))))) pa_nil))))
      (pss_one (ps_ret pe_bl))
      pss_nil)
    (pss_one (ps_ret (C8.pe_c c__is_from_to hr (Nat.le_refl _) (by rfl) (pa_cons (pv 3) (pa_cons (pe_un un_neg (C8.pe_gc (by rfl) T.HIGHEST_LAST)) (pa_cons (C8.pe_gc (by rfl) T.HIGHEST_LAST) pa_nil)))))))))), ?_⟩
  refine ⟨_, rfl, _, _, rfl, dinTy hd, _, _, rfl, rfl, (dinTy hd).known, .tup, _, rfl, ?_⟩
  rw [decTup]
  cases hd with
  | @tup a xs ds hT hA =>
    refine iteF ?_
    have hl := hA.len
    refine ⟨_, rfl, _, _, rfl, .inr hT, rfl, _, rfl, ?_⟩
    refine notDec (fun c => ?_) (fun c => ?_)
    · have z := q H (Same.refl _)
      rw [sumOk_not (fun e => c (intEq.mpr (by omega)))] at z
      exact z
    · have c' := intEq.mp c
      obtain ⟨x, y, dx, dy, rfl, rfl, hx, hy⟩ := din2 hA (by omega)
      clear hA hl c c'
      refine ⟨_, rfl, _, _, rfl, hT, rfl, _, _, rfl, _, _, rfl, rfl, ?_⟩
      refine ⟨_, rfl, _, _, rfl, dinTy hx, _, _, rfl, rfl, (dinTy hx).known, .tup, _, rfl, ?_⟩
      rw [decTup]
      cases hx with
      | @tup t ns dns hT2 hA2 =>
        refine iteF ?_
        have hl2 := hA2.len
        refine ⟨_, rfl, _, _, rfl, .inr hT2, _, rfl, rfl, _, rfl, ?_⟩
        refine notDec (fun c => ?_) (fun c => ?_)
        · have z := q H (Same.refl _)
          have ne : ¬ dns.length = many := fun e => c (intEq.mpr (by omega))
          have e : sumOk many (.tup [.tup dns, dy]) = false := by simp [sumOk, ne]
          rw [e] at z
          exact z
        · have c' := intEq.mp c
          have em : dns.length = many := by omega
          refine ⟨_, rfl, _, rfl, ⟨_, hT2⟩, fun D nD => ?_⟩
          refine lc_it walk_tup (Made H D (fun i y _ => y = .bl ((dns[i]?.map fun n => fromTo n (-9) 9).getD false))) (made0 nD) (fun i H1 _ p => tupS p.same hT2) (fun i z H1 H2 hi p y => ?_) (fun H1 p => ?_)
          · obtain ⟨rfl, ez⟩ := y
            obtain ⟨dz, e1, hz⟩ := dinAt (dinASame p.same hA2) ez
            refine ⟨rfl, ?_⟩
            refine lcYes ?_
            refine ⟨_, rfl, _, rfl, z, dz, -9, 9, rfl, hz, ?_⟩
            exact p.push nD (fun _ _ _ _ _ h => h) (by omega) (Same.refl _) (by simp [e1])
          · obtain ⟨g, sm⟩ := madeBl (p := fun n => fromTo n (-9) 9) p (by omega)
            refine ⟨_, _, rfl, .of g, _, rfl, ?_⟩
            have z := q H1 sm
            have e : sumOk many (.tup [.tup dns, dy]) = ((dns.all fun n => fromTo n (-9) 9) && fromTo dy (-99) 99) := by simp [sumOk, em]
            rw [e] at z
            rw [allMap]
            cases ha : dns.all (fun n => fromTo n (-9) 9) with
            | false =>
              rw [ha] at z
              exact iteT z
            | true =>
              rw [ha] at z
              refine iteF ?_
              exact ⟨_, rfl, _, rfl, _, dy, -99, 99, rfl, dinSame sm hy, z⟩
      | _ =>
        refine iteT ?_
        exact q _ (Same.refl _)
  | _ =>
    refine iteT ?_
    exact q _ (Same.refl _)

end

end LW

namespace LW
open PySem PySem.Spec PyProof.Rows L2
local macro_rules | `(tactic| walk_at "go1") => `(tactic| first
  | refine ⟨_, rfl, ?_⟩
  | refine ⟨_, _, rfl, rfl, ?_⟩
  | refine ⟨show (0 : Int) < _ from by omega, ?_⟩
  | refine ⟨show CMul _ _ from by first | exact .inl ⟨by omega, by omega⟩ | exact .inr ⟨by omega, by omega⟩, ?_⟩
  | refine ⟨show CDiv _ _ from ⟨by omega, by omega⟩, ?_⟩)
local macro_rules | `(tactic| walk_at "go") => `(tactic| repeat walk_at "go1")

section
variable {P : Program} {w : World} {K : PySem.W.Frag} {mg : Str → Option Value} {base : Heap}

abbrev s__are_kept_words : Stmt := topS 22
theorem sc__are_kept_words : FnScope ["words", "many", "word"] ["words", "many"] (defScope s__are_kept_words) := ⟨rfl, rfl, rfl, by decide +kernel, rfl, by decide +kernel, by decide +kernel⟩

def spWords (K : PySem.W.Frag) : Sp := fun vs H Q _ => ∃ (v : V) (d : D) (many : Nat), vs = [v, .int (many : Int)] ∧ Din K H v d ∧ many ≤ 1000 ∧ ∀ H', Same H H' → Q (.bl (wordsOk many d)) H'
theorem ok__are_kept_words {f : Addr} {fd : FuncData} {k : Nat} (F : Fun K "_are_kept_words" "_are_kept_words" s__are_kept_words f fd) (B : Bl mg) (T : Cs mg) (c__is_sum : C8.Cal P w K mg base k "_is_sum" (spIsS K) []) : FnOk P w K mg base CX0 (k + 1) f fd ["words", "many"] (spWords K) := by
  refine F.ok sc__are_kept_words (fun vs H Q E h => ?_) (fun cdv A outer s H vs Q E hr h => ?_)
  · obtain ⟨v, d, many, rfl, _⟩ := h
    rfl
  obtain ⟨v, d, many, rfl, hd, hm, q⟩ := h
  refine ⟨_, (pss_cons (ps_if (PW.pt (pw_or (pt_cmpR kNeTy (pe_callTy (kType (K := K) rfl) (by rfl) B.type (by decide +kernel) (pa_cons (pv 0) pa_nil)) (pe_bltn (v := .ty "tuple") (by rfl) B.tuple (by decide +kernel) rfl) (nomark _)) (pw_or1 (pt_cmpR op_gt (pe_callB (kLen (K := K) rfl) (by rfl) B.len PySem.boot_len (pa_cons (pv 0) pa_nil)) (C8.pe_gc (by rfl) T.MOST_KEPT) (nomark _)))))
      (pss_one (ps_ret pe_bl))
      pss_nil)
    (pss_one (ps_ret (pe_callB (kAll (K := K) rfl rfl) (by rfl) B.all (by decide +kernel) (pa_cons (pe_lc (own := [("word", 2)]) rfl sc__are_kept_words.nd (kTup_ (K := K) rfl (pv 0)) (blkOk_by (own := [("word", 2)]) (N := ["words", "many", "word"]) (sc := defScope s__are_kept_words) (by decide +kernel)) (fun _ _ _ _ _ => (pgN (i := 2) sc__are_kept_words.nd rfl (.inl rfl) (.inr rfl))) (fun _ _ _ _ _ => pts_nil) (fun _ _ _ _ _ => (C8.pe_c c__is_sum hr (Nat.le_refl _) (by rfl) (pa_cons (pv 2) (pa_cons (pv 1) pa_nil))))) pa_nil))))), ?_⟩
  refine ⟨_, rfl, _, _, rfl, dinTy hd, _, _, rfl, rfl, (dinTy hd).known, .tup, _, rfl, ?_⟩
  rw [decTup]
  cases hd with
  | @tup a xs ds hT hA =>
    refine iteF ?_
    have hl := hA.len
    refine ⟨_, rfl, _, _, rfl, .inr hT, _, _, rfl, rfl, _, rfl, ?_⟩
    refine yesDec (fun c => ?_) (fun c => ?_)
    · have z := q H (Same.refl _)
      have e : wordsOk many (.tup ds) = false := by
        have : ¬ ds.length ≤ 3 := by omega
        simp [wordsOk, this]
      rw [e] at z
      exact z
    · refine ⟨_, rfl, _, rfl, ⟨_, hT⟩, fun D nD => ?_⟩
      refine lc_it walk_tup (Made H D (fun i y _ => y = .bl ((ds[i]?.map (sumOk many)).getD false))) (made0 nD) (fun i H1 _ p => tupS p.same hT) (fun i z H1 H2 hi p y => ?_) (fun H1 p => ?_)
      · obtain ⟨rfl, ez⟩ := y
        obtain ⟨dz, e1, hz⟩ := dinAt (dinASame p.same hA) ez
        refine ⟨rfl, ?_⟩
        refine lcYes ?_
        refine ⟨_, rfl, _, rfl, z, dz, many, rfl, hz, hm, fun H3 s3 => ?_⟩
        exact p.push nD (fun _ _ _ _ _ h => h) (by omega) s3 (by simp [e1])
      · obtain ⟨g, sm⟩ := madeBl (p := sumOk many) p (by omega)
        refine ⟨_, _, rfl, .of g, ?_⟩
        rw [allMap]
        have z := q H1 sm
        have e : wordsOk many (.tup ds) = ds.all (sumOk many) := by
          have : ds.length ≤ 3 := by omega
          simp [wordsOk, this]
        rw [e] at z
        exact z
  | _ =>
    refine iteT ?_
    exact q _ (Same.refl _)
abbrev s_rows_within : Stmt := topS 16
theorem sc_rows_within : FnScope ["row"] ["row"] (defScope s_rows_within) := ⟨rfl, rfl, rfl, by decide +kernel, rfl, by decide +kernel, by decide +kernel⟩

/-- of a row that is well -/
def spWithin (K : PySem.W.Frag) : Sp := fun vs H Q _ => ∃ (v : V) (d : D) (many : Nat), vs = [v] ∧ Din K H v d ∧ rowOk many d = true ∧ ∀ (p : Addr) (ws : List V) (H' : Hp), H p = none → Same H H' → H' p = some (.tup ws) → DinA K H' ws (inner d) → Q (.ref p) H'
theorem rowShape {many : Nat} {d : D} (h : rowOk many d = true) : (∃ b s, d = .tup [.str "put", b, s]) ∨ (∃ w, d = .tup [.str "say", w]) ∨ (∃ w a b, d = .tup [.str "if", w, a, b]) ∨ ∃ w ws b, d = .tup [.str "loop", w, ws, b] := by
  unfold rowOk at h
  split at h
  · rename_i k rest
    unfold restOk at h
    split at h
    · rename_i e
      subst e
      split at h
      · exact .inl ⟨_, _, rfl⟩
      · cases h
    · split at h
      · rename_i e
        subst e
        split at h
        · exact .inr (.inl ⟨_, rfl⟩)
        · cases h
      · split at h
        · rename_i e
          subst e
          split at h
          · exact .inr (.inr (.inl ⟨_, _, _, rfl⟩))
          · cases h
        · split at h
          · rename_i e
            subst e
            split at h
            · exact .inr (.inr (.inr ⟨_, _, _, rfl⟩))
            · cases h
          · cases h
  · cases h
theorem kDiff : ("put" : Str) ≠ "if" ∧ ("put" : Str) ≠ "loop" ∧ ("say" : Str) ≠ "if" ∧ ("say" : Str) ≠ "loop" ∧ ("loop" : Str) ≠ "if" ∧ ("if" : Str) ≠ "loop" ∧ ("say" : Str) ≠ "put" ∧ ("if" : Str) ≠ "put" ∧ ("loop" : Str) ≠ "put" ∧ ("put" : Str) ≠ "say" ∧ ("if" : Str) ≠ "say" ∧ ("loop" : Str) ≠ "say" := by decide +kernel
theorem decS {a b : Str} (h : a ≠ b) : decide (V.str a = V.str b) = false := decide_eq_false fun e => h (V.str.inj e)
theorem ok_rows_within {f : Addr} {fd : FuncData} {k : Nat} (F : Fun K "rows_within" "rows_within" s_rows_within f fd) : FnOk P w K mg base CX0 (k + 1) f fd ["row"] (spWithin K) := by
  refine F.ok sc_rows_within (fun vs H Q E h => ?_) (fun cdv A outer s H vs Q E hr h => ?_)
  · obtain ⟨v, d, many, rfl, _⟩ := h
    rfl
  obtain ⟨v, d, many, rfl, hd, ho, q⟩ := h
  refine ⟨_, (pss_cons (ps_if (pt_cmpR op_eq (pe_ix (kIxT (K := K) rfl) (pv 0) pe_int (fun _ _ => rfl)) pe_str (nomark _))
      (pss_one (ps_ret (pe_tup (pa_cons (pe_ix (kIxT (K := K) rfl) (pv 0) pe_int (fun _ _ => rfl)) (pa_cons (pe_ix (kIxT (K := K) rfl) (pv 0) pe_int (fun _ _ => rfl)) pa_nil)))))
      pss_nil)
    (pss_cons (ps_if (pt_cmpR op_eq (pe_ix (kIxT (K := K) rfl) (pv 0) pe_int (fun _ _ => rfl)) pe_str (nomark _))
      (pss_one (ps_ret (pe_tup (pa_cons (pe_ix (kIxT (K := K) rfl) (pv 0) pe_int (fun _ _ => rfl)) pa_nil))))
      pss_nil)
    (pss_one (ps_ret (pe_tup pa_nil))))), ?_⟩
  obtain ⟨k1, k2, k3, k4, k5, k6, _⟩ := kDiff
  rcases rowShape ho with ⟨b, sm, rfl⟩ | ⟨wd, rfl⟩ | ⟨wd, r1, r2, rfl⟩ | ⟨wd, ws, r1, rfl⟩
  · cases hd with
    | tup hT hA =>
      cases hA with
      | cons h0 hA1 =>
        cases h0
        refine ⟨_, rfl, _, _, _, _, rfl, rfl, hT, atI_nat (j := 0) rfl, rfl, _, rfl, ?_⟩
        rw [decS k1]
        refine iteF ?_
        refine ⟨_, rfl, _, _, _, _, rfl, rfl, hT, atI_nat (j := 0) rfl, rfl, _, rfl, ?_⟩
        rw [decS k2]
        refine iteF ⟨by show 0 ≤ sizeLine; decide, fun p np => q p [] _ np (sameNew np) upd_same ?_⟩
        simp [inner, k1, k2]
        exact .nil
  · cases hd with
    | tup hT hA =>
      cases hA with
      | cons h0 hA1 =>
        cases h0
        refine ⟨_, rfl, _, _, _, _, rfl, rfl, hT, atI_nat (j := 0) rfl, rfl, _, rfl, ?_⟩
        rw [decS k3]
        refine iteF ?_
        refine ⟨_, rfl, _, _, _, _, rfl, rfl, hT, atI_nat (j := 0) rfl, rfl, _, rfl, ?_⟩
        rw [decS k4]
        refine iteF ⟨by show 0 ≤ sizeLine; decide, fun p np => q p [] _ np (sameNew np) upd_same ?_⟩
        simp [inner, k3, k4]
        exact .nil
  · cases hd with
    | tup hT hA =>
      cases hA with
      | cons h0 hA1 =>
        cases h0
        cases hA1 with
        | cons hw hA2 =>
          have hA3 := hA2
          cases hA2 with
          | cons ha hA4 =>
            cases hA4 with
            | cons hb hA5 =>
              cases hA5
              refine ⟨_, rfl, _, _, _, _, rfl, rfl, hT, atI_nat (j := 0) rfl, rfl, _, rfl, ?_⟩
              rw [decide_eq_true rfl]
              refine iteT ⟨_, rfl, _, _, _, _, rfl, rfl, hT, atI_nat (j := 2) rfl, _, rfl, _, _, _, _, rfl, rfl, hT, atI_nat (j := 3) rfl, by show 2 ≤ sizeLine; decide, fun p np => q p _ _ np (sameNew np) upd_same ?_⟩
              have e : inner (.tup [.str "if", wd, r1, r2]) = [r1, r2] := by simp [inner]
              rw [e]
              exact dinASame (sameNew np) hA3
  · cases hd with
    | tup hT hA =>
      cases hA with
      | cons h0 hA1 =>
        cases h0
        cases hA1 with
        | cons hw hA2 =>
          cases hA2 with
          | cons ha hA4 =>
            have hA3 := hA4
            cases hA4 with
            | cons hb hA5 =>
              cases hA5
              refine ⟨_, rfl, _, _, _, _, rfl, rfl, hT, atI_nat (j := 0) rfl, rfl, _, rfl, ?_⟩
              rw [decS k5]
              refine iteF ?_
              refine ⟨_, rfl, _, _, _, _, rfl, rfl, hT, atI_nat (j := 0) rfl, rfl, _, rfl, ?_⟩
              rw [decide_eq_true rfl]
              refine iteT ⟨_, rfl, _, _, _, _, rfl, rfl, hT, atI_nat (j := 3) rfl, by show 1 ≤ sizeLine; decide, fun p np => q p _ _ np (sameNew np) upd_same ?_⟩
              have e : inner (.tup [.str "loop", wd, ws, r1]) = [r1] := by simp [inner, k5]
              rw [e]
              exact dinASame (sameNew np) hA3

end

end LW

namespace LW
open PySem PySem.Spec PyProof.Rows L2
local macro_rules | `(tactic| walk_at "go1") => `(tactic| first
  | refine ⟨_, rfl, ?_⟩
  | refine ⟨_, _, rfl, rfl, ?_⟩
  | refine ⟨show (0 : Int) < _ from by omega, ?_⟩
  | refine ⟨show CMul _ _ from by first | exact .inl ⟨by omega, by omega⟩ | exact .inr ⟨by omega, by omega⟩, ?_⟩
  | refine ⟨show CDiv _ _ from ⟨by omega, by omega⟩, ?_⟩)
local macro_rules | `(tactic| walk_at "go") => `(tactic| repeat walk_at "go1")

section
variable {P : Program} {w : World} {K : PySem.W.Frag} {mg : Str → Option Value} {base : Heap}

abbrev s__check_count : Stmt := topS 20
theorem sc__check_count : FnScope ["count"] ["count"] (defScope s__check_count) := ⟨rfl, rfl, rfl, by decide +kernel, rfl, by decide +kernel, by decide +kernel⟩

def spCount (CB : Addr) : Sp := fun vs H Q E => ∃ n : Nat, vs = [.int (n : Int)] ∧ (12 < n → ∀ H', Same H H' → E (.ref CB) none H') ∧ (n ≤ 12 → Q .non H)
theorem ok__check_count {f CB : Addr} {fd : FuncData} {k : Nat} (F : Fun K "_check_count" "_check_count" s__check_count f fd) (B : Bl mg) (T : Cs mg) (XBadProgram : ExF K mg "BadProgram" CB) : FnOk P w K mg base (L2.CX P w) (k + 1) f fd ["count"] (spCount CB) := by
  refine F.okX sc__check_count (fun vs H Q E h => ?_) (fun cdv A outer s H vs Q E hr h => ?_)
  · obtain ⟨n, rfl, _⟩ := h
    rfl
  obtain ⟨n, rfl, e, q⟩ := h
  refine ⟨_, (pss_one (ps_if (pt_cmpR op_gt (pv 0) (C8.pe_gc (by rfl) T.MOST_ROWS) (nomark _))
      (pss_one (ps_raise rfl (takes_of rfl rfl rfl rfl) (pmk_ownA PySem.F.excBase_ValueError XBadProgram.xP XBadProgram.gP XBadProgram.kP (raises_own XBadProgram.bP XBadProgram.tP) (by rfl) (pa_cons (pe_joined (PJ.cons pe_str (PJ.cons (pe_fmt (C8.pe_gc (by rfl) T.MOST_ROWS)) (PJ.cons pe_str PJ.nil)))) pa_nil))))
      pss_nil)), ?_⟩
  refine ⟨_, rfl, _, _, rfl, rfl, _, rfl, ?_⟩
  refine yesDec (fun c => ?_) (fun c => ?_)
  · refine ⟨_, rfl, by decide +kernel, .inr ⟨_, rfl, by decide +kernel, _, rfl, by decide +kernel, _, rfl, by decide +kernel, by show 1 ≤ sizeLine; decide, ?_⟩⟩
    exact e (by omega) _ (Same.refl _)
  · exact q (by omega)
abbrev s__check_row : Stmt := topS 21
theorem sc__check_row : FnScope ["row", "many", "kind", "well"] ["row", "many"] (defScope s__check_row) := ⟨rfl, rfl, rfl, by decide +kernel, rfl, by decide +kernel, by decide +kernel⟩

def spRow (K : PySem.W.Frag) (CB : Addr) : Sp := fun vs H Q E => ∃ (v : V) (d : D) (many : Nat), vs = [v, .int (many : Int)] ∧ Din K H v d ∧ many ≤ 1000 ∧
  (rowOk many d = true → ∀ H', Same H H' → Q .non H') ∧ (rowOk many d = false → ∀ H', Same H H' → E (.ref CB) none H')
theorem inKinds (k : Str) : inV (.str k) [.str "put", .str "say", .str "if", .str "loop"] = true ↔ (k = "put" ∨ k = "say" ∨ k = "if" ∨ k = "loop") := by
  have e : ∀ a : Str, eqV (.str a) (.str k) = true ↔ k = a := fun a => by
    show (a == k) = true ↔ k = a
    rw [beq_iff_eq]
    exact eq_comm
  unfold inV
  simp only [List.any_cons, List.any_nil, Bool.or_eq_true, e]
  simp only [Bool.false_eq_true, or_false]
theorem restOk_no {many : Nat} {k : Str} {rest : List D} (h : ¬ (k = "put" ∨ k = "say" ∨ k = "if" ∨ k = "loop")) : restOk many k rest = false := by
  unfold restOk
  rw [if_neg (fun e => h (.inl e)), if_neg (fun e => h (.inr (.inl e))), if_neg (fun e => h (.inr (.inr (.inl e)))), if_neg (fun e => h (.inr (.inr (.inr e))))]
theorem rest_put {many : Nat} {b s : D} : restOk many "put" [b, s] = (fromTo b 0 ((many : Int) - 1) && sumOk many s) := by simp [restOk]
theorem rest_put_no {many : Nat} {r : List D} (h : r.length ≠ 2) : restOk many "put" r = false := by
  unfold restOk
  rw [if_pos rfl]
  split
  · exact absurd rfl h
  · rfl
theorem rest_say {many : Nat} {s : D} : restOk many "say" [s] = sumOk many s := by simp [restOk, kDiff]
theorem rest_say_no {many : Nat} {r : List D} (h : r.length ≠ 1) : restOk many "say" r = false := by
  unfold restOk
  rw [if_neg kDiff.2.2.2.2.2.2.1, if_pos rfl]
  split
  · exact absurd rfl h
  · rfl
theorem rest_if {many : Nat} {s a b : D} : restOk many "if" [s, a, b] = sumOk many s := by simp [restOk, kDiff]
theorem rest_if_no {many : Nat} {r : List D} (h : r.length ≠ 3) : restOk many "if" r = false := by
  unfold restOk
  rw [if_neg kDiff.2.2.2.2.2.2.2.1, if_neg kDiff.2.2.2.2.2.2.2.2.2.2.1, if_pos rfl]
  split
  · exact absurd rfl h
  · rfl
theorem rest_loop {many : Nat} {s ws b : D} : restOk many "loop" [s, ws, b] = (sumOk many s && wordsOk many ws) := by simp [restOk, kDiff]
theorem rest_loop_no {many : Nat} {r : List D} (h : r.length ≠ 3) : restOk many "loop" r = false := by
  unfold restOk
  rw [if_neg kDiff.2.2.2.2.2.2.2.2.1, if_neg kDiff.2.2.2.2.2.2.2.2.2.2.2, if_neg kDiff.2.2.2.2.1, if_pos rfl]
  split
  · exact absurd rfl h
  · rfl
theorem ok__check_row {f CB : Addr} {fd : FuncData} {k : Nat} (F : Fun K "_check_row" "_check_row" s__check_row f fd) (B : Bl mg) (T : Cs mg) (XBadProgram : ExF K mg "BadProgram" CB) (c__is_from_to : C8.Cal P w K mg base k "_is_from_to" (spFT K) [])
    (c__is_sum : C8.Cal P w K mg base k "_is_sum" (spIsS K) []) (c__are_kept_words : C8.Cal P w K mg base k "_are_kept_words" (spWords K) []) : FnOk P w K mg base (L2.CX P w) (k + 1) f fd ["row", "many"] (spRow K CB) := by
  refine F.okX sc__check_row (fun vs H Q E h => ?_) (fun cdv A outer s H vs Q E hr h => ?_)
  · obtain ⟨v, d, many, rfl, _⟩ := h
    rfl
  obtain ⟨v, d, many, rfl, hd, hm, q, e⟩ := h
  refine ⟨_, (pss_cons (ps_if (PW.pt (pw_or (pt_cmpR kNeTy (pe_callTy (kType (K := K) rfl) (by rfl) B.type (by decide +kernel) (pa_cons (pv 0) pa_nil)) (pe_bltn (v := .ty "tuple") (by rfl) B.tuple (by decide +kernel) rfl) (nomark _)) (pw_or1 (pt_cmpR op_eq (pe_callB (kLen (K := K) rfl) (by rfl) B.len PySem.boot_len (pa_cons (pv 0) pa_nil)) pe_int (nomark _)))))
      (pss_one (ps_raise rfl (takes_of rfl rfl rfl rfl) (pmk_ownA PySem.F.excBase_ValueError XBadProgram.xP XBadProgram.gP XBadProgram.kP (raises_own XBadProgram.bP XBadProgram.tP) (by rfl) (pa_cons pe_str pa_nil))))
      pss_nil)
    (pss_cons (ps_set (i := 2) sc__check_row.nd rfl (.inl rfl) (pe_ix (kIxT (K := K) rfl) (pv 0) pe_int (fun _ _ => rfl)))
    (pss_cons (ps_if (PW.pt (pw_or (pt_cmpR kNeTy (pe_callTy (kType (K := K) rfl) (by rfl) B.type (by decide +kernel) (pa_cons (pv 2) pa_nil)) (pe_bltn (v := .ty "str") (by rfl) B.str (by decide +kernel) rfl) (nomark _)) (pw_or1 (pt_cmpR (kNotIn (K := K) rfl) (pv 2) (pe_tup (pa_cons pe_str (pa_cons pe_str (pa_cons pe_str (pa_cons pe_str pa_nil))))) (by rfl)))))
      (pss_one (ps_raise rfl (takes_of rfl rfl rfl rfl) (pmk_ownA PySem.F.excBase_ValueError XBadProgram.xP XBadProgram.gP XBadProgram.kP (raises_own XBadProgram.bP XBadProgram.tP) (by rfl) (pa_cons pe_str pa_nil))))
      pss_nil)
    (C8.pss_cut (ps_if (pt_cmpR op_eq (pv 2) pe_str (nomark _))
      (pss_one (ps_set (i := 3) sc__check_row.nd rfl (.inl rfl) (pe_and (pe_cmpR op_eq (pe_callB (kLen (K := K) rfl) (by rfl) B.len PySem.boot_len (pa_cons (pv 0) pa_nil)) pe_int (nomark _)) (pe_and (C8.pe_c c__is_from_to hr (Nat.le_refl _) (by rfl) (pa_cons (pe_ix (kIxT (K := K) rfl) (pv 0) pe_int (fun _ _ => rfl)) (pa_cons pe_int (pa_cons (pe_op op_sub (pv 1) pe_int) pa_nil)))) (pe_one (C8.pe_c c__is_sum hr (Nat.le_refl _) (by rfl) (pa_cons (pe_ix (kIxT (K := K) rfl) (pv 0) pe_int (fun _ _ => rfl)) (pa_cons (pv 1) pa_nil))))))))
      (pss_one (ps_if (pt_cmpR op_eq (pv 2) pe_str (nomark _))
        (pss_one (ps_set (i := 3) sc__check_row.nd rfl (.inl rfl) (pe_and (pe_cmpR op_eq (pe_callB (kLen (K := K) rfl) (by rfl) B.len PySem.boot_len (pa_cons (pv 0) pa_nil)) pe_int (nomark _)) (pe_one (C8.pe_c c__is_sum hr (Nat.le_refl _) (by rfl) (pa_cons (pe_ix (kIxT (K := K) rfl) (pv 0) pe_int (fun _ _ => rfl)) (pa_cons (pv 1) pa_nil)))))))
        (pss_one (ps_if (pt_cmpR op_eq (pv 2) pe_str (nomark _))
          (pss_one (ps_set (i := 3) sc__check_row.nd rfl (.inl rfl) (pe_and (pe_cmpR op_eq (pe_callB (kLen (K := K) rfl) (by rfl) B.len PySem.boot_len (pa_cons (pv 0) pa_nil)) pe_int (nomark _)) (pe_one (C8.pe_c c__is_sum hr (Nat.le_refl _) (by rfl) (pa_cons (pe_ix (kIxT (K := K) rfl) (pv 0) pe_int (fun _ _ => rfl)) (pa_cons (pv 1) pa_nil)))))))
          (pss_one (ps_set (i := 3) sc__check_row.nd rfl (.inl rfl) (pe_and (pe_cmpR op_eq (pe_callB (kLen (K := K) rfl) (by rfl) B.len PySem.boot_len (pa_cons (pv 0) pa_nil)) pe_int (nomark _)) (pe_and (C8.pe_c c__is_sum hr (Nat.le_refl _) (by rfl) (pa_cons (pe_ix (kIxT (K := K) rfl) (pv 0) pe_int (fun _ _ => rfl)) (pa_cons (pv 1) pa_nil))) (pe_one (C8.pe_c c__are_kept_words hr (Nat.le_refl _) (by rfl) (pa_cons (pe_ix (kIxT (K := K) rfl) (pv 0) pe_int (fun _ _ => rfl)) (pa_cons (pv 1) pa_nil)))))))))))))
    (pss_one (ps_if (pt_not (pt_val (pv 3)))
      (pss_one (ps_raise rfl (takes_of rfl rfl rfl rfl) (pmk_ownA PySem.F.excBase_ValueError XBadProgram.xP XBadProgram.gP XBadProgram.kP (raises_own XBadProgram.bP XBadProgram.tP) (by rfl) (pa_cons (pe_joined (PJ.cons pe_str (PJ.cons (pe_fmt (pv 2)) PJ.nil))) pa_nil))))
      pss_nil)))))), ?_⟩
  refine ⟨_, rfl, _, _, rfl, dinTy hd, _, _, rfl, rfl, (dinTy hd).known, .tup, _, rfl, ?_⟩
  rw [decTup]
  cases hd with
  | @tup a xs ds hT hA =>
    refine iteF ?_
    have hl := hA.len
    refine ⟨_, rfl, _, _, rfl, .inr hT, rfl, _, rfl, ?_⟩
    refine yesDec (fun c => ?_) (fun c => ?_)
    · have c' := intEq.mp c
      refine ⟨by show 1 ≤ sizeLine; decide, ?_⟩
      cases ds with
      | nil => exact e rfl _ (Same.refl _)
      | cons _ _ =>
        rw [List.length_cons] at hl
        omega
    · have c' : ¬ ((xs.length : Nat) : Int) = 0 := fun z => c (intEq.mpr z)
      cases hA with
      | nil => exact absurd rfl c'
      | @cons v0 vs0 d0 ds0 h0 hA1 =>
        have hl1 := hA1.len
        refine ⟨_, rfl, _, _, _, _, rfl, rfl, hT, atI_nat (j := 0) rfl, ?_⟩
        refine ⟨_, rfl, _, _, rfl, dinTy h0, _, _, rfl, rfl, (dinTy h0).known, .str, _, rfl, ?_⟩
        rw [decStr]
        cases h0 with
        | str kd =>
          refine iteF ?_
          refine ⟨_, rfl, by show 4 ≤ sizeLine; decide, fun p np => ?_⟩
          refine ⟨p, _, rfl, .inr (.of upd_same), rfl, rfl, _, rfl, ?_⟩
          have s1 : Same H (upd H p (.tup [.str "put", .str "say", .str "if", .str "loop"])) := sameNew np
          have hT1 := tupS s1 hT
          have hA2 := dinASame s1 hA1
          have hin := inKinds kd
          cases hv : inV (.str kd) [.str "put", .str "say", .str "if", .str "loop"] with
          | false =>
            refine iteT ⟨by show 1 ≤ sizeLine; decide, ?_⟩
            exact e (restOk_no fun z => by rw [hin.mpr z] at hv; cases hv) _ s1
          | true =>
            refine iteF ?_
            have hk := hin.mp hv
            generalize upd H p (.tup [.str "put", .str "say", .str "if", .str "loop"]) = H1 at *
            refine ⟨fun σ' H' => Same H H' ∧ σ' = [some (.ref a), some (.int (many : Int)), some (.str kd), some (.bl (restOk many kd ds0))], ?_, ?_⟩
            · obtain ⟨k1, k2, k3, k4, k5, k6, k7, k8, k9, k10, k11, k12⟩ := kDiff
              refine ⟨_, rfl, rfl, _, rfl, ?_⟩
              refine yesDec (fun e1 => ?_) (fun e1 => ?_)
              · have ek := strEq.mp e1
                subst ek
                refine ⟨_, rfl, _, _, rfl, .inr hT1, rfl, _, rfl, ?_⟩
                refine yesDec (fun c2 => ?_) (fun c2 => ?_)
                · have c3 := intEq.mp c2
                  rw [List.length_cons] at c3
                  obtain ⟨x, y, dx, dy, rfl, rfl, hx, hy⟩ := din2 hA2 (by omega)
                  refine ⟨_, rfl, _, _, _, _, rfl, rfl, hT1, atI_nat (j := 1) rfl, _, rfl, _, _, rfl, rfl, x, dx, 0, _, rfl, hx, _, rfl, ?_⟩
                  refine ifB (fun c4 => ?_) (fun c4 => ?_)
                  · refine ⟨_, rfl, _, _, _, _, rfl, rfl, hT1, atI_nat (j := 2) rfl, _, rfl, y, dy, many, rfl, hy, hm, fun H2 s2 => ⟨Same.trans s1 s2, ?_⟩⟩
                    rw [rest_put, c4]
                    rfl
                  · refine ⟨s1, ?_⟩
                    rw [rest_put, c4]
                    rfl
                · refine ⟨s1, ?_⟩
                  rw [rest_put_no fun z => c2 (intEq.mpr (by rw [List.length_cons] <;> omega))]
                  rfl
              · refine ⟨_, rfl, rfl, _, rfl, ?_⟩
                have n1 : kd ≠ "put" := fun z => e1 (strEq.mpr z)
                refine yesDec (fun e2 => ?_) (fun e2 => ?_)
                · have ek := strEq.mp e2
                  subst ek
                  refine ⟨_, rfl, _, _, rfl, .inr hT1, rfl, _, rfl, ?_⟩
                  refine yesDec (fun c2 => ?_) (fun c2 => ?_)
                  · have c3 := intEq.mp c2
                    rw [List.length_cons] at c3
                    obtain ⟨x, dx, rfl, rfl, hx⟩ := din1 hA2 (by omega)
                    refine ⟨_, rfl, _, _, _, _, rfl, rfl, hT1, atI_nat (j := 1) rfl, _, rfl, x, dx, many, rfl, hx, hm, fun H2 s2 => ⟨Same.trans s1 s2, ?_⟩⟩
                    rw [rest_say]
                    rfl
                  · refine ⟨s1, ?_⟩
                    rw [rest_say_no fun z => c2 (intEq.mpr (by rw [List.length_cons] <;> omega))]
                    rfl
                · refine ⟨_, rfl, rfl, _, rfl, ?_⟩
                  have n2 : kd ≠ "say" := fun z => e2 (strEq.mpr z)
                  refine yesDec (fun e3 => ?_) (fun e3 => ?_)
                  · have ek := strEq.mp e3
                    subst ek
                    refine ⟨_, rfl, _, _, rfl, .inr hT1, rfl, _, rfl, ?_⟩
                    refine yesDec (fun c2 => ?_) (fun c2 => ?_)
                    · have c3 := intEq.mp c2
                      rw [List.length_cons] at c3
                      obtain ⟨x, y, z, dx, dy, dz, rfl, rfl, hx, hy, hz⟩ := din3 hA2 (by omega)
                      refine ⟨_, rfl, _, _, _, _, rfl, rfl, hT1, atI_nat (j := 1) rfl, _, rfl, x, dx, many, rfl, hx, hm, fun H2 s2 => ⟨Same.trans s1 s2, ?_⟩⟩
                      rw [rest_if]
                      rfl
                    · refine ⟨s1, ?_⟩
                      rw [rest_if_no fun z => c2 (intEq.mpr (by rw [List.length_cons] <;> omega))]
                      rfl
                  · have n3 : kd ≠ "if" := fun z => e3 (strEq.mpr z)
                    have ek : kd = "loop" := by
                      rcases hk with z | z | z | z
                      · exact absurd z n1
                      · exact absurd z n2
                      · exact absurd z n3
                      · exact z
                    subst ek
                    refine ⟨_, rfl, _, _, rfl, .inr hT1, rfl, _, rfl, ?_⟩
                    refine yesDec (fun c2 => ?_) (fun c2 => ?_)
                    · have c3 := intEq.mp c2
                      rw [List.length_cons] at c3
                      obtain ⟨x, y, z, dx, dy, dz, rfl, rfl, hx, hy, hz⟩ := din3 hA2 (by omega)
                      refine ⟨_, rfl, _, _, _, _, rfl, rfl, hT1, atI_nat (j := 1) rfl, _, rfl, x, dx, many, rfl, hx, hm, fun H2 s2 => ⟨_, rfl, ?_⟩⟩
                      refine ifB (fun c4 => ?_) (fun c4 => ?_)
                      · refine ⟨_, rfl, _, _, _, _, rfl, rfl, tupS s2 hT1, atI_nat (j := 2) rfl, _, rfl, y, dy, many, rfl, dinSame s2 hy, hm, fun H3 s3 => ⟨Same.trans s1 (Same.trans s2 s3), ?_⟩⟩
                        rw [rest_loop, c4]
                        rfl
                      · refine ⟨Same.trans s1 s2, ?_⟩
                        rw [rest_loop, c4]
                        rfl
                    · refine ⟨s1, ?_⟩
                      rw [rest_loop_no fun z => c2 (intEq.mpr (by rw [List.length_cons] <;> omega))]
                      rfl
            · rintro σ' H' ⟨sm, rfl⟩
              refine ⟨_, rfl, _, rfl, ?_⟩
              have q' : restOk many kd ds0 = true → ∀ H', Same H H' → Q .non H' := q
              have e' : restOk many kd ds0 = false → ∀ H', Same H H' → E (.ref CB) none H' := e
              cases hb : restOk many kd ds0 with
              | true => exact iteF (q' hb _ sm)
              | false =>
                refine iteT ?_
                have lk : kd.length ≤ 4 := by
                  rcases hk with z | z | z | z <;> rw [z] <;> decide +kernel
                refine ⟨_, rfl, by decide +kernel, _, rfl, .inl ⟨_, rfl, Nat.le_trans lk (by decide), _, rfl, ?_, by show 1 ≤ sizeLine; decide, e' hb _ sm⟩⟩
                rcases hk with z | z | z | z <;> rw [z] <;> decide +kernel
        | _ =>
          refine iteT ⟨by show 1 ≤ sizeLine; decide, ?_⟩
          exact e rfl _ (Same.refl _)
  | _ =>
    refine iteT ⟨by show 1 ≤ sizeLine; decide, ?_⟩
    exact e rfl _ (Same.refl _)

end

end LW

namespace LW
open PySem PySem.Spec PyProof.Rows L2
local macro_rules | `(tactic| walk_at "go1") => `(tactic| first
  | refine ⟨_, rfl, ?_⟩
  | refine ⟨_, _, rfl, rfl, ?_⟩
  | refine ⟨show (0 : Int) < _ from by omega, ?_⟩
  | refine ⟨show CMul _ _ from by first | exact .inl ⟨by omega, by omega⟩ | exact .inr ⟨by omega, by omega⟩, ?_⟩
  | refine ⟨show CDiv _ _ from ⟨by omega, by omega⟩, ?_⟩)
local macro_rules | `(tactic| walk_at "go") => `(tactic| repeat walk_at "go1")

section
variable {P : Program} {w : World} {K : PySem.W.Frag} {mg : Str → Option Value} {base : Heap}

theorem foldTake {α β : Type} {g : β → α → Option β} {l : List α} {a c : β} {i : Nat} {d : α} (h : (l.take i).foldlM g a = some c) (e : l[i]? = some d) : (l.take (i + 1)).foldlM g a = g c d := by
  rw [List.take_add_one, e, List.foldlM_append, h]
  simp
theorem foldNone {α β : Type} {g : β → α → Option β} {l : List α} {a c : β} {i : Nat} {d : α} (h : (l.take i).foldlM g a = some c) (e : l[i]? = some d) (n : g c d = none) : l.foldlM g a = none := by
  obtain ⟨hi, rfl⟩ := List.getElem?_eq_some_iff.mp e
  have el : l = l.take i ++ l[i] :: l.drop (i + 1) := by rw [← List.drop_eq_getElem_cons hi, List.take_append_drop]
  rw [el, List.foldlM_append, h]
  show ((l[i] :: l.drop (i + 1)).foldlM g c) = none
  rw [List.foldlM_cons, n]
  rfl
abbrev s__check_rows : Stmt := topS 19
theorem sc__check_rows : FnScope ["rows", "many", "depth", "count", "row", "inner"] ["rows", "many", "depth"] (defScope s__check_rows) := ⟨rfl, rfl, rfl, by decide +kernel, rfl, by decide +kernel, by decide +kernel⟩

def spRows (K : PySem.W.Frag) (CB : Addr) (i : Nat) : Sp := fun vs H Q E => ∃ (v : V) (d : D) (many depth : Nat), vs = [v, .int (many : Int), .int (depth : Int)] ∧ Din K H v d ∧ many ≤ 1000 ∧ depth + i = 5 ∧ depth ≤ 4 ∧
  (∀ n : Nat, chk many (i - 1) d = some n → ∀ H', Same H H' → Q (.int (n : Int)) H') ∧ (chk many (i - 1) d = none → ∀ H', Same H H' → E (.ref CB) none H')
theorem ok__check_rows {f CB : Addr} {fd : FuncData} {k i : Nat} (F : Fun K "_check_rows" "_check_rows" s__check_rows f fd) (B : Bl mg) (T : Cs mg) (XBadProgram : ExF K mg "BadProgram" CB) (c__check_count : CalX P w K mg base k "_check_count" (spCount CB))
    (c__check_row : CalX P w K mg base k "_check_row" (spRow K CB)) (c_rows_within : C8.Cal P w K mg base k "rows_within" (spWithin K) []) (c__check_rows : CalX P w K mg base k "_check_rows" (spRows K CB i)) :
    FnOk P w K mg base (L2.CX P w) (k + 1) f fd ["rows", "many", "depth"] (spRows K CB (i + 1)) := by
  refine F.okX sc__check_rows (fun vs H Q E h => ?_) (fun cdv A outer s H vs Q E hr h => ?_)
  · obtain ⟨v, d, many, depth, rfl, _⟩ := h
    rfl
  obtain ⟨v, d, many, depth, rfl, hd, hm, hi, hi2, q, e⟩ := h
  refine ⟨_, (pss_cons (ps_if (pt_cmpR op_gt (pv 2) (C8.pe_gc (by rfl) T.MOST_WITHIN) (nomark _))
      (pss_one (ps_raise rfl (takes_of rfl rfl rfl rfl) (pmk_ownA PySem.F.excBase_ValueError XBadProgram.xP XBadProgram.gP XBadProgram.kP (raises_own XBadProgram.bP XBadProgram.tP) (by rfl) (pa_cons (pe_joined (PJ.cons pe_str (PJ.cons (pe_fmt (C8.pe_gc (by rfl) T.MOST_WITHIN)) (PJ.cons pe_str PJ.nil)))) pa_nil))))
      pss_nil)
    (pss_cons (ps_if (pt_cmpR kNeTy (pe_callTy (kType (K := K) rfl) (by rfl) B.type (by decide +kernel) (pa_cons (pv 0) pa_nil)) (pe_bltn (v := .ty "tuple") (by rfl) B.tuple (by decide +kernel) rfl) (nomark _))
      (pss_one (ps_raise rfl (takes_of rfl rfl rfl rfl) (pmk_ownA PySem.F.excBase_ValueError XBadProgram.xP XBadProgram.gP XBadProgram.kP (raises_own XBadProgram.bP XBadProgram.tP) (by rfl) (pa_cons pe_str pa_nil))))
      pss_nil)
    (pss_cons (ps_set (i := 3) sc__check_rows.nd rfl (.inl rfl) (pe_callB (kLen (K := K) rfl) (by rfl) B.len PySem.boot_len (pa_cons (pv 0) pa_nil)))
    (pss_cons (ps_expr (cX c__check_count hr (Nat.le_refl _) (by rfl) (passes_call (takes_of rfl rfl rfl rfl) (fun _ _ _ _ h => h)) (pa_cons (pv 3) pa_nil)))
    (pss_cons (ps_for (passes_of rfl) rfl (kTup_ (K := K) rfl (pv 0)) (pg_name (i := 4) sc__check_rows.nd rfl (.inl rfl))
      (pss_cons (ps_expr (cX c__check_row hr (Nat.le_refl _) (by rfl) (passes_call (takes_of rfl rfl rfl rfl) (fun _ _ _ _ h => h)) (pa_cons (pv 4) (pa_cons (pv 1) pa_nil))))
      (pss_one (ps_for (passes_of rfl) rfl (kTup_ (K := K) rfl (C8.pe_c c_rows_within hr (Nat.le_refl _) (by rfl) (pa_cons (pv 4) pa_nil))) (pg_name (i := 5) sc__check_rows.nd rfl (.inl rfl))
        (pss_cons (ps_aug (i := 3) sc__check_rows.nd rfl (.inl rfl) (cX c__check_rows hr (Nat.le_refl _) (by rfl) (passes_call (takes_of rfl rfl rfl rfl) (fun _ _ _ _ h => h)) (pa_cons (pv 5) (pa_cons (pv 1) (pa_cons (pe_op op_add (pv 2) pe_int) pa_nil)))) ip_add)
        (pss_one (ps_expr (cX c__check_count hr (Nat.le_refl _) (by rfl) (passes_call (takes_of rfl rfl rfl rfl) (fun _ _ _ _ h => h)) (pa_cons (pv 3) pa_nil)))))))))
    (pss_one (ps_ret (pv 3)))))))), ?_⟩
  have ei : i + 1 - 1 = i := by omega
  rw [ei] at q e
  refine ⟨_, rfl, _, _, rfl, rfl, _, rfl, ?_⟩
  refine yesDec (fun c => ?_) (fun c => ?_)
  · refine ⟨_, rfl, by decide +kernel, .inr ⟨_, rfl, by decide +kernel, _, rfl, by decide +kernel, _, rfl, by decide +kernel, by show 1 ≤ sizeLine; decide, ?_⟩⟩
    have i0 : i = 0 := by omega
    subst i0
    exact e rfl _ (Same.refl _)
  · obtain ⟨r, rfl⟩ : ∃ r, i = r + 1 := ⟨i - 1, by omega⟩
    refine ⟨_, rfl, _, _, rfl, dinTy hd, _, _, rfl, rfl, (dinTy hd).known, .tup, _, rfl, ?_⟩
    rw [decTup]
    cases hd with
    | @tup a xs ds hT hA =>
      refine iteF ?_
      have hl := hA.len
      refine ⟨_, rfl, _, _, rfl, .inr hT, ?_⟩
      refine ⟨_, rfl, xs.length, rfl, fun c1 H' s1 => e ?_ _ s1, fun c1 => ?_⟩
      · have : 12 < ds.length := by omega
        simp [chk, this]
      have hn : ¬ 12 < ds.length := by omega
      have hchk : chk many (r + 1) (.tup ds) = ds.foldlM (rowTo many (chk many r)) ds.length := by simp only [chk]; rw [if_neg hn]
      rw [hchk] at q e
      refine ⟨_, rfl, _, rfl, ⟨_, hT⟩, ?_⟩
      refine for_it walk_tup (fun j σ H' => Same H H' ∧ ∃ (cnt : Nat) (y4 y5 : Option V), σ = [some (.ref a), some (.int (many : Int)), some (.int (depth : Int)), some (.int (cnt : Int)), y4, y5] ∧ (ds.take j).foldlM (rowTo many (chk many r)) ds.length = some cnt)
        ⟨Same.refl _, xs.length, none, none, rfl, by simp [hl]⟩ (fun j σ H' _ p => tupS p.1 hT) (fun j x σ H' H2 hj p y => ?_) (fun σ H' p => ?_)
      · obtain ⟨sm, cnt, y4, y5, rfl, hc⟩ := p
        obtain ⟨rfl, ex⟩ := y
        obtain ⟨dj, edj, hdj⟩ := dinAt (dinASame sm hA) ex
        refine ⟨_, rfl, _, rfl, x, dj, many, rfl, hdj, hm, fun hok H3 s3 => ?_, fun hno H3 s3 => e (foldNone hc edj (by unfold rowTo; rw [if_neg (by rw [hno]; exact Bool.false_ne_true)])) _ (Same.trans sm s3)⟩
        have hrow : rowTo many (chk many r) cnt dj = (inner dj).foldlM (addTo (chk many r)) cnt := by unfold rowTo; rw [if_pos hok]
        refine ⟨_, rfl, x, dj, many, rfl, dinSame s3 hdj, hok, fun pw ws H4 npw s4 epw hws => ?_⟩
        have s5 := Same.trans sm (Same.trans s3 s4)
        have lw := hws.len
        refine ⟨_, rfl, ⟨_, .of epw⟩, ?_⟩
        refine for_it walk_tup (fun n σ H' => Same H4 H' ∧ ∃ (cnt2 : Nat) (y5 : Option V), σ = [some (.ref a), some (.int (many : Int)), some (.int (depth : Int)), some (.int (cnt2 : Int)), some x, y5] ∧ ((inner dj).take n).foldlM (addTo (chk many r)) cnt = some cnt2)
          ⟨Same.refl _, cnt, y5, rfl, by simp⟩ (fun n σ H' _ p => .of (p.1 _ _ epw)) (fun n z σ H' H6 hn2 p y => ?_) (fun σ H' p => ?_)
        · obtain ⟨sm2, cnt2, y5', rfl, hc2⟩ := p
          obtain ⟨rfl, ez⟩ := y
          obtain ⟨dn, edn, hdn⟩ := dinAt (dinASame sm2 hws) ez
          have s6 := Same.trans s5 sm2
          refine ⟨_, rfl, _, rfl, _, rfl, _, rfl, _, _, rfl, rfl, z, dn, many, depth + 1, by simp, hdn, hm, by omega, by omega, fun m hm2 H7 s7 => ?_, fun hno H7 s7 => e (foldNone hc edj ?_) _ (Same.trans s6 s7)⟩
          · have er : chk many r dn = some m := hm2
            refine ⟨_, _, rfl, rfl, ?_⟩
            refine ⟨_, rfl, cnt2 + m, by simp, fun c7 H8 s8 => e (foldNone hc edj ?_) _ (Same.trans s6 (Same.trans s7 s8)), fun c7 => ?_⟩
            · rw [hrow]
              exact foldNone hc2 edn (by unfold addTo; rw [er]; simp; omega)
            · refine ⟨Same.trans sm2 s7, cnt2 + m, some z, by simp, ?_⟩
              rw [foldTake hc2 edn]
              unfold addTo
              rw [er]
              simp
              omega
          · have er : chk many r dn = none := hno
            rw [hrow]
            exact foldNone hc2 edn (by unfold addTo; rw [er]; rfl)
        · obtain ⟨sm2, cnt2, y5', rfl, hc2⟩ := p
          refine ⟨Same.trans s5 sm2, cnt2, some x, y5', rfl, ?_⟩
          rw [foldTake hc edj, hrow, ← hc2, List.take_of_length_le (by omega)]
      · obtain ⟨sm, cnt, y4, y5, rfl, hc⟩ := p
        rw [List.take_of_length_le (by omega)] at hc
        exact ⟨_, rfl, q cnt hc _ sm⟩
    | _ =>
      refine iteT ⟨by show 1 ≤ sizeLine; decide, ?_⟩
      exact e rfl _ (Same.refl _)
abbrev s__check_tops : Stmt := topS 18
theorem sc__check_tops : FnScope ["tops", "top"] ["tops"] (defScope s__check_tops) := ⟨rfl, rfl, rfl, by decide +kernel, rfl, by decide +kernel, by decide +kernel⟩

def spTops (K : PySem.W.Frag) (CB : Addr) : Sp := fun vs H Q E => ∃ (v : V), vs = [v] ∧
  ((∃ (a : Addr) (xs : List V) (ds : List D), v = .ref a ∧ SqL K H a xs ∧ DinA K H xs ds ∧ (topsOk ds = true → ∀ H', Same H H' → Q .non H') ∧ (topsOk ds = false → ∀ H', Same H H' → E (.ref CB) none H')) ∨
   (∃ d, Din K H v d ∧ d.ty ≠ "list" ∧ ∀ H', Same H H' → E (.ref CB) none H'))
theorem ok__check_tops {f CB : Addr} {fd : FuncData} {k : Nat} (F : Fun K "_check_tops" "_check_tops" s__check_tops f fd) (B : Bl mg) (T : Cs mg) (XBadProgram : ExF K mg "BadProgram" CB) (c__is_from_to : C8.Cal P w K mg base k "_is_from_to" (spFT K) []) :
    FnOk P w K mg base (L2.CX P w) (k + 1) f fd ["tops"] (spTops K CB) := by
  refine F.okX sc__check_tops (fun vs H Q E h => ?_) (fun cdv A outer s H vs Q E hr h => ?_)
  · obtain ⟨v, rfl, _⟩ := h
    rfl
  obtain ⟨v, rfl, h⟩ := h
  refine ⟨_, (pss_cons (ps_if (PW.pt (pw_or (pt_cmpR kNeTy (pe_callTy (kType (K := K) rfl) (by rfl) B.type (by decide +kernel) (pa_cons (pv 0) pa_nil)) (pe_bltn (v := .ty "list") (by rfl) B.list (by decide +kernel) rfl) (nomark _)) (pw_or1 (pt_not (pt_chain op_le op_le pe_int (pe_callB (kLen (K := K) rfl) (by rfl) B.len PySem.boot_len (pa_cons (pv 0) pa_nil)) (C8.pe_gc (by rfl) T.MOST_BOXES))))))
      (pss_one (ps_raise rfl (takes_of rfl rfl rfl rfl) (pmk_ownA PySem.F.excBase_ValueError XBadProgram.xP XBadProgram.gP XBadProgram.kP (raises_own XBadProgram.bP XBadProgram.tP) (by rfl) (pa_cons (pe_joined (PJ.cons pe_str (PJ.cons (pe_fmt (C8.pe_gc (by rfl) T.MOST_BOXES)) (PJ.cons pe_str PJ.nil)))) pa_nil))))
      pss_nil)
    (pss_one (ps_if (pt_not (pt_val (pe_callB (kAll (K := K) rfl rfl) (by rfl) B.all (by decide +kernel) (pa_cons (pe_lc (own := [("top", 1)]) rfl sc__check_tops.nd (kList_ (K := K) rfl (pv 0)) (blkOk_by (own := [("top", 1)]) (N := ["tops", "top"]) (sc := defScope s__check_tops) (by decide +kernel)) (fun _ _ _ _ _ => (pgN (i := 1) sc__check_tops.nd rfl (.inl rfl) (.inr rfl))) (fun _ _ _ _ _ => pts_nil) (fun _ _ _ _ _ => (C8.pe_c c__is_from_to hr (Nat.le_refl _) (by rfl) (pa_cons (pv 1) (pa_cons pe_int (pa_cons (C8.pe_gc (by rfl) T.HIGHEST_TOP) pa_nil)))))) pa_nil))))
      (pss_one (ps_raise rfl (takes_of rfl rfl rfl rfl) (pmk_ownA PySem.F.excBase_ValueError XBadProgram.xP XBadProgram.gP XBadProgram.kP (raises_own XBadProgram.bP XBadProgram.tP) (by rfl) (pa_cons (pe_joined (PJ.cons pe_str (PJ.cons (pe_fmt (C8.pe_gc (by rfl) T.HIGHEST_TOP)) PJ.nil))) pa_nil))))
      pss_nil))), ?_⟩
  rcases h with ⟨a, xs, ds, rfl, hL, hA, q, e⟩ | ⟨d, hd, hty, e⟩
  · have hl := hA.len
    refine ⟨_, rfl, _, _, rfl, .lst hL, _, _, rfl, rfl, .lst, .lst, _, rfl, ?_⟩
    rw [decide_eq_true rfl]
    refine iteF ?_
    refine ⟨_, rfl, _, _, rfl, .inl hL, _, _, rfl, rfl, _, rfl, ?_⟩
    refine yesDec (fun c1 => ?_) (fun c1 => ?_)
    · refine ⟨_, _, rfl, rfl, _, rfl, ?_⟩
      cases c2 : decide (((xs.length : Nat) : Int) ≤ 3) with
      | false =>
        refine iteT ?_
        have c2' := of_decide_eq_false c2
        refine ⟨_, rfl, by decide +kernel, .inr ⟨_, rfl, by decide +kernel, _, rfl, by decide +kernel, _, rfl, by decide +kernel, by show 1 ≤ sizeLine; decide, ?_⟩⟩
        refine e ?_ _ (Same.refl _)
        have : ¬ ds.length ≤ 3 := by omega
        simp [topsOk, this]
      | true =>
        refine iteF ?_
        have c2' := of_decide_eq_true c2
        refine ⟨_, rfl, _, rfl, ⟨_, hL⟩, fun D nD => ?_⟩
        refine lc_it walk_list (Made H D (fun i y _ => y = .bl ((ds[i]?.map fun t => fromTo t 0 9).getD false))) (made0 nD) (fun i H1 _ p => Same.seq p.same hL) (fun i z H1 H2 hi p y => ?_) (fun H1 p => ?_)
        · obtain ⟨rfl, ez⟩ := y
          obtain ⟨dz, e1, hz⟩ := dinAt (dinASame p.same hA) ez
          refine ⟨rfl, ?_⟩
          refine lcYes ?_
          refine ⟨_, rfl, z, dz, 0, 9, rfl, hz, ?_⟩
          exact p.push nD (fun _ _ _ _ _ h => h) (by omega) (Same.refl _) (by simp [e1])
        · obtain ⟨g, sm⟩ := madeBl (p := fun t => fromTo t 0 9) p (by omega)
          refine ⟨_, _, rfl, .of g, _, rfl, ?_⟩
          rw [allMap]
          have et : topsOk ds = ds.all fun t => fromTo t 0 9 := by
            have a1 : 1 ≤ ds.length := by omega
            have a2 : ds.length ≤ 3 := by omega
            simp [topsOk, a1, a2]
          rw [et] at q e
          cases ha : ds.all fun t => fromTo t 0 9 with
          | true => exact iteF (q ha _ sm)
          | false =>
            refine iteT ⟨_, rfl, by decide +kernel, .inr ⟨_, rfl, by decide +kernel, _, rfl, by decide +kernel, by show 1 ≤ sizeLine; decide, e ha _ sm⟩⟩
    · refine ⟨_, rfl, ?_⟩
      refine iteT ?_
      refine ⟨_, rfl, by decide +kernel, .inr ⟨_, rfl, by decide +kernel, _, rfl, by decide +kernel, _, rfl, by decide +kernel, by show 1 ≤ sizeLine; decide, ?_⟩⟩
      refine e ?_ _ (Same.refl _)
      have : ¬ 1 ≤ ds.length := by omega
      simp [topsOk, this]
  · refine ⟨_, rfl, _, _, rfl, dinTy hd, _, _, rfl, rfl, (dinTy hd).known, .lst, _, rfl, ?_⟩
    rw [decide_eq_false hty]
    refine iteT ?_
    refine ⟨_, rfl, by decide +kernel, .inr ⟨_, rfl, by decide +kernel, _, rfl, by decide +kernel, _, rfl, by decide +kernel, by show 1 ≤ sizeLine; decide, ?_⟩⟩
    exact e _ (Same.refl _)

end

end LW

namespace LW
open PySem PySem.Spec PyProof.Rows L2
local macro_rules | `(tactic| walk_at "go1") => `(tactic| first
  | refine ⟨_, rfl, ?_⟩
  | refine ⟨_, _, rfl, rfl, ?_⟩
  | refine ⟨show (0 : Int) < _ from by omega, ?_⟩
  | refine ⟨show CMul _ _ from by first | exact .inl ⟨by omega, by omega⟩ | exact .inr ⟨by omega, by omega⟩, ?_⟩
  | refine ⟨show CDiv _ _ from ⟨by omega, by omega⟩, ?_⟩)
local macro_rules | `(tactic| walk_at "go") => `(tactic| repeat walk_at "go1")

section
variable {P : Program} {w : World} {K : PySem.W.Frag} {mg : Str → Option Value} {base : Heap}

/-! ### a class of the program: its property, its methods, its making -/
structure CalP (P : Program) (w : World) (K : PySem.W.Frag) (mg : Str → Option Value) (base : Heap) (k : Nat) (C : Addr) (f : Str) (sp : Sp) : Prop where
  ex : ∃ (p g : Addr) (fd : FuncData) (ps : List Str), PropOf K C f p g ∧ FnOk P w K mg base CX0 k g fd ps sp ∧ Binds K fd ps []
structure CalM (P : Program) (w : World) (K : PySem.W.Frag) (mg : Str → Option Value) (base : Heap) (k : Nat) (C : Addr) (m : Str) (sp : Sp) : Prop where
  ex : ∃ (f : Addr) (fd : FuncData) (ps : List Str), Meth K C m f ∧ FnOk P w K mg base CX0 k f fd ps sp ∧ Binds K fd ps []
structure CalC (P : Program) (w : World) (K : PySem.W.Frag) (mg : Str → Option Value) (base : Heap) (k : Nat) (C : Addr) (x : Str) (sp : Sp) : Prop where
  ex : ∃ (f : Addr) (fd : FuncData) (ps : List Str), Mk K C f ∧ FnOk P w K mg base (L2.CX P w) k f fd ps sp ∧ Binds K fd ps [] ∧ mg x = some (.ref C)
theorem pP {X : Cx} {k j : Nat} {C : Addr} {f : Str} {sp : Sp} {e : Expr} {pos : Pos} {ta : TE} (c : CalP X.prog X.w X.K X.mg X.base k C f sp) (cl : Cls X.K C) (hr : Room j X.A) (hk : k + 1 ≤ j) (he : PE X e ta)
    (hab : attributeBase e f X.env (eval e X.env) = eval e X.env := by rfl) : PE X (.Attribute e f pos) (tProp C sp [] C8.E0 ta) := by
  obtain ⟨p, g, fd, ps, hp, F, b⟩ := c.ex
  exact pe_prop he cl hp F (hr.mono hk) b .nil pass0 hab
theorem pM {X : Cx} {k j : Nat} {C : Addr} {m : Str} {sp : Sp} {o e : Expr} {es : List Expr} {pos apos : Pos} {ta : TE} {t : TA} {pl : Sem Bool} (c : CalM X.prog X.w X.K X.mg X.base k C m sp) (cl : Cls X.K C) (hr : Room j X.A) (hk : k ≤ j) (he : PE X o ta) (ha : PA X (e :: es) t)
    (hst : starEach (e :: es) X.env = (false, eval e X.env) :: starEach es X.env := by rfl) (hpl : (backTo pos (starEach es X.env)).any (·.1) = false := by rfl)
    (ht : eval (.Call (.Attribute o m apos) (e :: es) [] pos) X.env = (do
      let ov ← eval o X.env
      standAt apos.atName
      let (f, first) ← holding [ov] (getMethod ov m pl)
      callWith pos f first (backTo pos (starEach (e :: es) X.env)) (backToKw pos (keywordEach [] X.env))) := by rfl) : PE X (.Call (.Attribute o m apos) (e :: es) [] pos) (tMeth C m sp [] C8.E0 ta t) := by
  obtain ⟨f, fd, ps, hm, F, b⟩ := c.ex
  exact pe_meth he cl hm F (hr.mono hk) b .nil pass0 ha hst hpl ht
theorem pM0 {X : Cx} {k j : Nat} {C : Addr} {m : Str} {sp : Sp} {o : Expr} {pos apos : Pos} {ta : TE} {pl : Sem Bool} (c : CalM X.prog X.w X.K X.mg X.base k C m sp) (cl : Cls X.K C) (hr : Room j X.A) (hk : k ≤ j) (he : PE X o ta)
    (ht : eval (.Call (.Attribute o m apos) [] [] pos) X.env = (do
      let ov ← eval o X.env
      standAt apos.atName
      let (f, first) ← holding [ov] (getMethod ov m pl)
      callWith pos f first (backTo pos (starEach [] X.env)) (backToKw pos (keywordEach [] X.env))) := by rfl) : PE X (.Call (.Attribute o m apos) [] [] pos) (tMeth C m sp [] C8.E0 ta tNil) := by
  obtain ⟨f, fd, ps, hm, F, b⟩ := c.ex
  exact pe_meth0 he cl hm F (hr.mono hk) b .nil pass0 ht
theorem pC {X : Cx} {k j : Nat} {C : Addr} {x : Str} {sp : Sp} {E : XK} {e : Expr} {es : List Expr} {p pos : Pos} {t : TA} (c : CalC X.prog X.w X.K X.mg X.base k C x sp) (hr : Room j X.A) (hk : k + 1 ≤ j) (hx : Passes (L2.CX X.prog X.w) X E) (ha : PA X (e :: es) t) (hg : Gl X x := by rfl)
    (hdb : (x == ("__debug__" : Str)) = false := by decide) (he : starEach (e :: es) X.env = (false, eval e X.env) :: starEach es X.env := by rfl) (hpl : (backTo pos (starEach es X.env)).any (·.1) = false := by rfl) :
    PE X (.Call (.Name x p) (e :: es) [] pos) (tMake C sp [] E t) := by
  obtain ⟨f, fd, ps, M, F, b, hm⟩ := c.ex
  exact pe_make M F (hr.mono hk) hg hm b .nil hx ha hdb he hpl
/-- an instance of Program -/
def PrIn (K : PySem.W.Frag) (H : Hp) (C x : Addr) (tops : List Int) (rv : V) : Prop := ∃ dx t, H x = some (.ins C dx [("_tops", .ref t), ("rows", rv)]) ∧ SqT K H t (tops.map V.int)
theorem prSame {K : PySem.W.Frag} {H H' : Hp} {C x : Addr} {tops : List Int} {rv : V} (e : Same H H') (h : PrIn K H C x tops rv) : PrIn K H' C x tops rv := by
  obtain ⟨dx, t, h1, h2⟩ := h
  exact ⟨dx, t, e _ _ h1, tupS e h2⟩
/-- the class -/
structure ClsP (K : PySem.W.Frag) (C : Addr) : Prop where
  cl : Cls K C
  n1 : NoAttr K C "_tops"
  n2 : NoAttr K C "rows"
abbrev s_Program___init__ : Stmt := inClass (topS 13) 0
theorem sc_Program___init__ : FnScope ["self", "tops", "rows"] ["self", "tops", "rows"] (defScope s_Program___init__) := ⟨rfl, rfl, rfl, by decide +kernel, rfl, by decide +kernel, by decide +kernel⟩

def spInit (K : PySem.W.Frag) (C CB : Addr) : Sp := fun vs H Q E => ∃ (x dx : Addr) (tv rv : V), vs = [.ref x, tv, rv] ∧ H x = some (.ins C dx []) ∧
  (((∃ d, Din K H tv d ∧ d.ty ≠ "list") ∧ (∀ H', Same H H' → E (.ref CB) none H')) ∨
   ∃ (a : Addr) (xs : List V) (ds : List D), tv = .ref a ∧ SqL K H a xs ∧ DinA K H xs ds ∧ (topsOk ds = false → ∀ H', Same H H' → E (.ref CB) none H') ∧
     (topsOk ds = true → ∃ d, Din K H rv d ∧ (chk ds.length 4 d = none → ∀ H', Same H H' → E (.ref CB) none H') ∧
       (∀ n, chk ds.length 4 d = some n → ∀ (H' : Hp) (t : Addr), (∀ b o, b ≠ x → H b = some o → H' b = some o) → H' x = some (.ins C dx [("_tops", .ref t), ("rows", rv)]) → SqT K H' t xs → Q .non H')))
theorem putTwo {a b : V} : putF "rows" b (putF "_tops" a []) = ([(("_tops" : Str), a), (("rows" : Str), b)] : List (Str × V)) := by
  have h : ¬ (("_tops" : Str) = "rows") := by decide +kernel
  simp [putF, h]
theorem ok_init {f C CB : Addr} {fd : FuncData} {k : Nat} (F : Fun K "__init__" "Program.__init__" s_Program___init__ f fd) (B : Bl mg) (cp : ClsP K C) (c__check_tops : CalX P w K mg base k "_check_tops" (spTops K CB)) (c__check_rows : CalX P w K mg base k "_check_rows" (spRows K CB 5)) :
    FnOk P w K mg base (L2.CX P w) (k + 1) f fd ["self", "tops", "rows"] (spInit K C CB) := by
  refine F.okX sc_Program___init__ (fun vs H Q E h => ?_) (fun cdv A outer s H vs Q E hr h => ?_)
  · obtain ⟨x, dx, tv, rv, rfl, _⟩ := h
    rfl
  obtain ⟨x, dx, tv, rv, rfl, hx, h⟩ := h
  refine ⟨_, (pss_cons (ps_expr (cX c__check_tops hr (Nat.le_refl _) (by rfl) (passes_call (takes_of rfl rfl rfl rfl) (fun _ _ _ _ h => h)) (pa_cons (pv 1) pa_nil)))
    (pss_cons (ps_expr (cX c__check_rows hr (Nat.le_refl _) (by rfl) (passes_call (takes_of rfl rfl rfl rfl) (fun _ _ _ _ h => h)) (pa_cons (pv 2) (pa_cons (pe_callB (kLen (K := K) rfl) (by rfl) B.len PySem.boot_len (pa_cons (pv 1) pa_nil)) (pa_cons pe_int pa_nil)))))
    (pss_cons (ps_fld (pv 0) (pe_callTy (kTup (K := K) rfl) (by rfl) B.tuple (by decide +kernel) (pa_cons (pv 1) pa_nil)) rfl)
    (pss_one (ps_fld (pv 0) (pv 2) rfl))))), ?_⟩
  rcases h with ⟨⟨d, hd, ty⟩, e⟩ | ⟨a, xs, ds, rfl, hL, hA, e0, hq⟩
  · exact ⟨_, rfl, tv, rfl, .inr ⟨d, hd, ty, e⟩⟩
  refine ⟨_, rfl, .ref a, rfl, .inl ⟨a, xs, ds, rfl, hL, hA, fun hto H1 s1 => ?_, e0⟩⟩
  obtain ⟨d, hd, e, q⟩ := hq hto
  have l3 : ds.length ≤ 3 := by
    simp only [topsOk, Bool.and_eq_true, decide_eq_true_eq] at hto
    exact hto.1.2
  have lA := hA.len
  refine ⟨_, rfl, _, rfl, _, _, rfl, .inl (Same.seq s1 hL), rv, d, ds.length, 0, by rw [lA]; rfl, dinSame s1 hd, by omega, by decide, by decide, fun n hn H2 s2 => ?_, fun hno H2 s2 => e hno _ (Same.trans s1 s2)⟩
  have s12 := Same.trans s1 s2
  refine ⟨_, rfl, _, _, rfl, .inl ⟨Same.seq s12 hL, fun T nT => ?_⟩⟩
  have hx3 := sameNew (o := .tup xs) nT _ _ (s12 _ _ hx)
  refine ⟨_, rfl, x, C, dx, _, rfl, hx3, cp.cl, cp.n1, by decide, ?_⟩
  refine ⟨_, rfl, _, rfl, x, C, dx, _, rfl, upd_same, cp.cl, cp.n2, by simp [putF], ?_⟩
  rw [putTwo]
  have hne : T ≠ x := fun z => by rw [z, s12 _ _ hx] at nT; cases nT
  refine q n hn _ T (fun b o hb ho => ?_) upd_same (.of ?_)
  · rw [upd_ne hb, upd_ne hb]
    exact sameNew nT _ _ (s12 _ _ ho)
  · rw [upd_ne hne, upd_ne hne, upd_same]
abbrev s_Program_tops : Stmt := inClass (topS 13) 1
theorem sc_Program_tops : FnScope ["self"] ["self"] (defScope s_Program_tops) := ⟨rfl, rfl, rfl, by decide +kernel, rfl, by decide +kernel, by decide +kernel⟩

def spTopsP (K : PySem.W.Frag) (C : Addr) : Sp := fun vs H Q _ => ∃ (x : Addr) (tops : List Int) (rv : V), vs = [.ref x] ∧ PrIn K H C x tops rv ∧ ∀ (l : Addr) (H' : Hp), H l = none → Same H H' → H' l = some (.lst (tops.map V.int)) → Q (.ref l) H'
theorem ok_tops {f C : Addr} {fd : FuncData} {k : Nat} (F : Fun K "tops" "Program.tops" s_Program_tops f fd) (B : Bl mg) (cp : ClsP K C) : FnOk P w K mg base CX0 (k + 1) f fd ["self"] (spTopsP K C) := by
  refine F.ok sc_Program_tops (fun vs H Q E h => ?_) (fun cdv A outer s H vs Q E hr h => ?_)
  · obtain ⟨x, tops, rv, rfl, _⟩ := h
    rfl
  obtain ⟨x, tops, rv, rfl, ⟨dx, t, hx, ht⟩, q⟩ := h
  refine ⟨_, (pss_one (ps_ret (pe_callTy (kList (K := K) rfl) (by rfl) B.list (by decide +kernel) (pa_cons (pe_fld (pv 0) rfl) pa_nil)))), ?_⟩
  exact ⟨_, rfl, x, C, dx, _, _, rfl, hx, cp.cl, cp.n1, rfl, _, _, rfl, .inr ht, fun l nl => q l _ nl (sameNew nl) upd_same⟩
def okF (fs ts : List Int) : Bool := (List.range ts.length).all fun k => decide (0 ≤ fs[k]?.getD 0) && decide (fs[k]?.getD 0 ≤ ts[k]?.getD 0)
abbrev s_is_filling : Stmt := topS 14
theorem sc_is_filling : FnScope ["program", "filling", "held"] ["program", "filling"] (defScope s_is_filling) := ⟨rfl, rfl, rfl, by decide +kernel, rfl, by decide +kernel, by decide +kernel⟩

def isIntV : V → Bool
  | .int _ => true
  | _ => false
theorem tyInt {H : Hp} {v : V} {n : String} (h : TyN K H v n) : decide (n = "int") = isIntV v := by
  cases h <;> first | rfl | exact decide_eq_false (by decide)
theorem allInts : ∀ {xs : List V}, xs.all isIntV = true → ∃ fs : List Int, xs = fs.map V.int
  | [], _ => ⟨[], rfl⟩
  | x :: r, h => by
    rw [List.all_cons, Bool.and_eq_true] at h
    obtain ⟨fs, e⟩ := allInts h.2
    cases x with
    | int i => exact ⟨i :: fs, by rw [e]; rfl⟩
    | _ => exact absurd h.1 (by simp [isIntV])
theorem intsAll (fs : List Int) : (fs.map V.int).all isIntV = true := by
  induction fs with
  | nil => rfl
  | cons x r ih => rw [List.map_cons, List.all_cons, ih]; rfl
/-- what is handed in as a filling: a list, or of another kind -/
def FlArg (K : PySem.W.Frag) (H : Hp) (v : V) (xs : Option (List V)) : Prop := match xs with
  | none => ∃ n, TyN K H v n ∧ n ≠ "list"
  | some xs => ∃ fa, v = .ref fa ∧ SqL K H fa xs ∧ (∀ x ∈ xs, ∃ n, TyN K H x n) ∧ xs.length ≤ 1000
def isFl (tops : List Int) : Option (List V) → Bool
  | none => false
  | some xs => decide (xs.length = tops.length) && xs.all isIntV
theorem FlArg.ints {H : Hp} {fa : Addr} {fs : List Int} (h : SqL K H fa (fs.map V.int)) (l : fs.length ≤ 1000) : FlArg K H (.ref fa) (some (fs.map V.int)) :=
  ⟨fa, rfl, h, fun x hx => by
    obtain ⟨i, _, rfl⟩ := List.mem_map.mp hx
    exact ⟨_, .int i⟩, by rw [List.length_map]; exact l⟩
theorem tyNS {H H' : Hp} {x : V} {n : String} (e : Same H H') (h : TyN K H x n) : TyN K H' x n := by
  cases h with
  | non => exact .non
  | bl b => exact .bl b
  | int i => exact .int i
  | str s => exact .str s
  | lst h => exact .lst (Same.seq e h)
  | tup h => exact .tup (tupS e h)
  | dct h => exact .dct (e _ _ h)
theorem FlArg.mono {H H' : Hp} {v : V} {xs : Option (List V)} (e : Same H H') (h : FlArg K H v xs) : FlArg K H' v xs := by
  cases xs with
  | none =>
    obtain ⟨n, h, ne⟩ := h
    exact ⟨n, tyNS e h, ne⟩
  | some xs =>
    obtain ⟨fa, e1, h1, h2, h3⟩ := h
    exact ⟨fa, e1, Same.seq e h1, fun x hx => (h2 x hx).imp fun _ => tyNS e, h3⟩
def spFill (K : PySem.W.Frag) (C : Addr) : Sp := fun vs H Q _ => ∃ (x : Addr) (v : V) (tops : List Int) (rv : V) (xs : Option (List V)), vs = [.ref x, v] ∧ PrIn K H C x tops rv ∧ FlArg K H v xs ∧ tops.length ≤ 1000 ∧ ∀ H', Same H H' → Q (.bl (isFl tops xs)) H'
theorem ok_is_filling {f C : Addr} {fd : FuncData} {k : Nat} (F : Fun K "is_filling" "is_filling" s_is_filling f fd) (B : Bl mg) (qcl : Cls K C) (q_tops : CalP P w K mg base k C "tops" (spTopsP K C)) : FnOk P w K mg base CX0 (k + 2) f fd ["program", "filling"] (spFill K C) := by
  refine F.ok sc_is_filling (fun vs H Q E h => ?_) (fun cdv A outer s H vs Q E hr h => ?_)
  · obtain ⟨x, v, tops, rv, xs, rfl, _⟩ := h
    rfl
  obtain ⟨x, v, tops, rv, xs, rfl, hp, hv, hz, q⟩ := h
  refine ⟨_, (pss_cons (ps_if (PW.pt (pw_or (pt_cmpR kNeTy (pe_callTy (kType (K := K) rfl) (by rfl) B.type (by decide +kernel) (pa_cons (pv 1) pa_nil)) (pe_bltn (v := .ty "list") (by rfl) B.list (by decide +kernel) rfl) (nomark _)) (pw_or1 (pt_cmpR op_ne (pe_callB (kLen (K := K) rfl) (by rfl) B.len PySem.boot_len (pa_cons (pv 1) pa_nil)) (pe_callB (kLen (K := K) rfl) (by rfl) B.len PySem.boot_len (pa_cons (pP q_tops qcl hr (by omega) (pv 0)) pa_nil)) (nomark _)))))
      (pss_one (ps_ret pe_bl))
      pss_nil)
    (pss_one (ps_ret (pe_callB (kAll (K := K) rfl rfl) (by rfl) B.all (by decide +kernel) (pa_cons (pe_lc (own := [("held", 2)]) rfl sc_is_filling.nd (kList_ (K := K) rfl (pv 1)) (blkOk_by (own := [("held", 2)]) (N := ["program", "filling", "held"]) (sc := defScope s_is_filling) (by decide +kernel)) (fun _ _ _ _ _ => (pgN (i := 2) sc_is_filling.nd rfl (.inl rfl) (.inr rfl))) (fun _ _ _ _ _ => pts_nil) (fun _ _ _ _ _ => (pe_cmpR kEqTy (pe_callTy (kType (K := K) rfl) (by rfl) B.type (by decide +kernel) (pa_cons (pv 2) pa_nil)) (pe_bltn (v := .ty "int") (by rfl) B.int (by decide +kernel) rfl) (nomark _)))) pa_nil))))), ?_⟩
  cases xs with
  | none =>
    obtain ⟨n, hn, ne⟩ := hv
    refine ⟨_, rfl, _, _, rfl, hn, _, _, rfl, rfl, hn.known, .lst, _, rfl, ?_⟩
    rw [decide_eq_false ne]
    refine iteT ?_
    exact q _ (Same.refl _)
  | some xs =>
    obtain ⟨fa, rfl, hF, hty, lx⟩ := hv
    refine ⟨_, rfl, _, _, rfl, .lst hF, _, _, rfl, rfl, .lst, .lst, _, rfl, ?_⟩
    rw [decide_eq_true rfl]
    refine iteF ?_
    obtain ⟨dx, t, hx, ht⟩ := id hp
    refine ⟨_, rfl, _, _, rfl, .inl hF, _, rfl, x, dx, _, rfl, hx, x, tops, rv, rfl, hp, fun l H1 nl s1 hl1 => ?_⟩
    have hF1 := Same.seq s1 hF
    refine ⟨_, _, rfl, .inl (.of hl1), rfl, _, rfl, ?_⟩
    refine notDec (fun c => ?_) (fun c => ?_)
    · have e : xs.length ≠ tops.length := fun e => c (by rw [e, List.length_map])
      have q' := q _ s1
      rw [show isFl tops (some xs) = false by simp [isFl, e]] at q'
      exact q'
    have el : xs.length = tops.length := by
      have c : V.int (xs.length : Nat) = V.int ((tops.map V.int).length : Nat) := c
      injection c with c
      rw [List.length_map] at c
      omega
    refine ⟨_, rfl, _, rfl, ⟨_, hF1⟩, fun D nD => ?_⟩
    refine lc_it (walk_list (xs := xs)) (Made H1 D (fun i y _ => y = .bl ((xs[i]?.map isIntV).getD false))) (made0 nD) (fun i H2 _ p => Same.seq p.same hF1) (fun i y H2 H3 hi p z => ?_) (fun H2 p => ?_)
    · obtain ⟨rfl, ex⟩ := z
      obtain ⟨n, hn⟩ := hty y (List.mem_of_getElem? ex)
      refine ⟨rfl, ?_⟩
      refine lcYes ?_
      refine ⟨_, rfl, _, _, rfl, tyNS (Same.trans s1 p.same) hn, _, _, rfl, rfl, hn.known, .int, ?_⟩
      exact p.push nD (fun _ _ _ _ _ h => h) (by omega) (Same.refl _) (by rw [tyInt hn]; simp [ex])
    · obtain ⟨g, sm⟩ := madeBl (p := isIntV) p rfl
      refine ⟨_, _, rfl, .of g, ?_⟩
      rw [allMap]
      have q' := q _ (Same.trans s1 sm)
      rw [show isFl tops (some xs) = xs.all isIntV by simp [isFl, el]] at q'
      exact q'
abbrev s_is_within : Stmt := topS 15
theorem sc_is_within : FnScope ["program", "filling", "held", "top"] ["program", "filling"] (defScope s_is_within) := ⟨rfl, rfl, rfl, by decide +kernel, rfl, by decide +kernel, by decide +kernel⟩

/-- what it tells -/
def isWi (tops : List Int) (xs : Option (List V)) : Bool := isFl tops xs && match xs with
  | none => false
  | some xs => okF (xs.map fun v => match v with | .int i => i | _ => 0) tops
theorem isWi_ints {tops fs : List Int} : isWi tops (some (fs.map V.int)) = (decide (fs.length = tops.length) && okF fs tops) := by
  show (decide ((fs.map V.int).length = tops.length) && (fs.map V.int).all isIntV && okF ((fs.map V.int).map fun v => match v with | .int i => i | _ => 0) tops) = _
  rw [intsAll, Bool.and_true, List.length_map, List.map_map]
  congr 2
  exact (List.map_id _)
def spWIg (K : PySem.W.Frag) (C : Addr) : Sp := fun vs H Q _ => ∃ (x : Addr) (v : V) (tops : List Int) (rv : V) (xs : Option (List V)), vs = [.ref x, v] ∧ PrIn K H C x tops rv ∧ FlArg K H v xs ∧ tops.length ≤ 1000 ∧ ∀ H', Same H H' → Q (.bl (isWi tops xs)) H'
def spWI (K : PySem.W.Frag) (C : Addr) : Sp := fun vs H Q _ => ∃ (x fa : Addr) (tops fs : List Int) (rv : V), vs = [.ref x, .ref fa] ∧ PrIn K H C x tops rv ∧ SqL K H fa (fs.map V.int) ∧ fs.length = tops.length ∧ tops.length ≤ 1000 ∧ ∀ H', Same H H' → Q (.bl (okF fs tops)) H'
theorem wi_weak {C : Addr} (vs : List V) (H : Hp) (Q : VK) (E : XK) (h : spWI K C vs H Q E) : spWIg K C vs H Q E := by
  obtain ⟨x, fa, tops, fs, rv, e, hp, hF, hl, hz, q⟩ := h
  refine ⟨x, .ref fa, tops, rv, some (fs.map V.int), e, hp, FlArg.ints hF (by omega), hz, fun H' s => ?_⟩
  rw [isWi_ints, decide_eq_true hl, Bool.true_and]
  exact q H' s
theorem fnWeak {CX : CXT} {k : Nat} {f : Addr} {fd : FuncData} {ps : List Str} {sp sp' : Sp} (F : FnOk P w K mg base CX k f fd ps sp) (h : ∀ vs H Q E, sp' vs H Q E → sp vs H Q E) : FnOk P w K mg base CX k f fd ps sp' :=
  ⟨fun vs H Q E z => F.1 vs H Q E (h vs H Q E z), fun A outer s H args us vs Q E hr he hb hv z => F.2 A outer s H args us vs Q E hr he hb hv (h vs H Q E z)⟩
theorem ok_is_within {f C : Addr} {fd : FuncData} {k : Nat} (F : Fun K "is_within" "is_within" s_is_within f fd) (B : Bl mg) (qcl : Cls K C) (q_tops : CalP P w K mg base (k + 1) C "tops" (spTopsP K C)) (c_is_filling : C8.Cal P w K mg base (k + 2) "is_filling" (spFill K C) []) : FnOk P w K mg base CX0 (k + 3) f fd ["program", "filling"] (spWIg K C) := by
  refine F.ok sc_is_within (fun vs H Q E h => ?_) (fun cdv A outer s H vs Q E hr h => ?_)
  · obtain ⟨x, v, tops, rv, xs, rfl, _⟩ := h
    rfl
  obtain ⟨x, v, tops, rv, xs, rfl, hp, hv, hz, q⟩ := h
  refine ⟨_, (pss_cons (ps_if (pt_not (pt_val (C8.pe_c c_is_filling hr (Nat.le_refl _) (by rfl) (pa_cons (pv 0) (pa_cons (pv 1) pa_nil)))))
      (pss_one (ps_ret pe_bl))
      pss_nil)
    (pss_one (ps_ret (pe_callB (kAll (K := K) rfl rfl) (by rfl) B.all (by decide +kernel) (pa_cons (pe_lc (own := [("held", 2), ("top", 3)]) rfl sc_is_within.nd (kZ (K := K) rfl false false (by rfl) B.zip (pa_cons (pv 1) (pa_cons (pP q_tops qcl hr (by omega) (pv 0)) pa_nil))) (blkOk_by (own := [("held", 2), ("top", 3)]) (N := ["program", "filling", "held", "top"]) (sc := defScope s_is_within) (by decide +kernel)) (fun _ _ _ _ _ => (pgT2 (K := K) rfl (pgN (i := 2) sc_is_within.nd rfl (.inl rfl) (.inr rfl)) (pgN (i := 3) sc_is_within.nd rfl (.inl rfl) (.inr rfl)) rfl (by rfl) (by rfl) (by rfl) (by rfl))) (fun _ _ _ _ _ => pts_nil) (fun _ _ _ _ _ => (pe_chain op_le op_le pe_int (pv 2) (pv 3)))) pa_nil))))), ?_⟩
  refine ⟨_, rfl, _, rfl, x, v, tops, rv, xs, rfl, hp, hv, hz, fun H1 s1 => ?_⟩
  have q' : isFl tops xs = false → ∀ H', Same H H' → Q (.bl false) H' := fun e H' s => by
    have := q H' s
    rw [show isWi tops xs = false by unfold isWi; rw [e]; rfl] at this
    exact this
  cases hi : isFl tops xs with
  | false =>
    rw [hi] at q'
    refine ⟨_, rfl, iteT ?_⟩
    exact q' rfl _ s1
  | true =>
    cases xs with
    | none => cases hi
    | some xs =>
    have hi' := hi
    simp only [isFl, Bool.and_eq_true, decide_eq_true_eq] at hi'
    obtain ⟨hl, ha⟩ := hi'
    obtain ⟨fs, rfl⟩ := allInts ha
    rw [List.length_map] at hl
    rw [isWi_ints, decide_eq_true hl, Bool.true_and] at q
    obtain ⟨fa, rfl, hF, hty, lx⟩ := hv
    refine ⟨_, rfl, iteF ?_⟩
    obtain ⟨dx, t, hx, ht⟩ := id hp
    have hx1 := s1 _ _ hx
    have hp1 : PrIn K H1 C x tops rv := ⟨dx, t, hx1, tupS s1 ht⟩
    refine ⟨_, rfl, _, rfl, x, dx, _, rfl, hx1, x, tops, rv, rfl, hp1, fun l H2 nl s2 hl2 => ?_⟩
    have hF2 := Same.seq (Same.trans s1 s2) hF
    refine ⟨_, _, _, _, rfl, hF2, .of hl2, fun D nD => ?_⟩
    refine lc_it (walkZ (n := fs.length) (by simp [hl])) (Made H2 D (fun i y _ => y = .bl (((List.range tops.length)[i]?.map fun k => decide (0 ≤ fs[k]?.getD 0) && decide (fs[k]?.getD 0 ≤ tops[k]?.getD 0)).getD false))) (made0 nD) (fun i H1 _ p => ⟨Same.seq p.same hF2, .of (p.same _ _ hl2)⟩) (fun i x H2 H3 hi p y => ?_) (fun H3 p => ?_)
    · obtain ⟨T, x1, x2, rfl, nT, rfl, e1, e2⟩ := y
      have i1 : i < tops.length := by omega
      have f1 := mapAt e1 hi
      have f2 := mapAt e2 i1
      subst f1 f2
      refine ⟨_, _, rfl, .inl (.inl upd_same), rfl, _, _, rfl, _, _, rfl, rfl, rfl, ?_⟩
      refine lcYes ?_
      refine ⟨_, rfl, _, _, rfl, rfl, _, rfl, ?_⟩
      have go := fun b (eb : b = (decide (0 ≤ fs[i]) && decide (fs[i] ≤ tops[i]))) => p.push nD (fun _ _ _ _ _ h => h) (by omega) (sameNew (o := .tup [.int fs[i], .int tops[i]]) nT) (y := .bl b) (by simp [i1, hi, eb])
      refine ifB (fun c => ?_) (fun c => ?_)
      · refine ⟨_, rfl, _, _, rfl, rfl, ?_⟩
        exact go _ (by rw [c, Bool.true_and])
      · exact go _ (by rw [c, Bool.false_and])
    · obtain ⟨g, sm⟩ := madeBl (p := fun k => decide (0 ≤ fs[k]?.getD 0) && decide (fs[k]?.getD 0 ≤ tops[k]?.getD 0)) p (by simp [hl])
      refine ⟨_, _, rfl, .of g, ?_⟩
      rw [allMap]
      exact q _ (Same.trans s1 (Same.trans s2 sm))

end

end LW

namespace LW
open PySem PySem.Spec PyProof.Rows L2
local macro_rules | `(tactic| walk_at "go1") => `(tactic| first
  | refine ⟨_, rfl, ?_⟩
  | refine ⟨_, _, rfl, rfl, ?_⟩
  | refine ⟨show (0 : Int) < _ from by omega, ?_⟩
  | refine ⟨show CMul _ _ from by first | exact .inl ⟨by omega, by omega⟩ | exact .inr ⟨by omega, by omega⟩, ?_⟩
  | refine ⟨show CDiv _ _ from ⟨by omega, by omega⟩, ?_⟩)
local macro_rules | `(tactic| walk_at "go") => `(tactic| repeat walk_at "go1")

section
variable {P : Program} {w : World} {K : PySem.W.Frag} {mg : Str → Option Value} {base : Heap}

abbrev s__law_at : Stmt := topS 26
theorem sc__law_at : FnScope ["_law_script", "_law_k", "_law_cell"] ["_law_script", "_law_k"] (defScope s__law_at) := ⟨rfl, rfl, rfl, by decide +kernel, rfl, by decide +kernel, by decide +kernel⟩

def spAt (K : PySem.W.Frag) : Sp := fun vs H Q _ => ∃ (a : Addr) (ns : List Int) (k : Int), vs = [.ref a, .int k] ∧ SqL K H a (ns.map V.int) ∧ ns.length ≤ 63 ∧ 0 ≤ k ∧ k ≤ 1000 ∧ ∀ i : Int, 0 ≤ i → i < 1000003 → Q (.int i) H
theorem ok__law_at {f : Addr} {fd : FuncData} {k : Nat} (F : Fun K "_law_at" "_law_at" s__law_at f fd) (B : Bl mg) : FnOk P w K mg base CX0 (k + 1) f fd ["_law_script", "_law_k"] (spAt K) := by
  refine F.ok sc__law_at (fun vs H Q E h => ?_) (fun cdv A outer s H vs Q E hr h => ?_)
  · obtain ⟨a, ns, k, rfl, _⟩ := h
    rfl
  obtain ⟨a, ns, k, rfl, hS, h63, k0, k1, q⟩ := h
  refine ⟨_, (pss_cons (ps_set (i := 2) sc__law_at.nd rfl (.inl rfl) pe_int)
    (pss_cons (ps_if (pt_cmpR op_gt (pe_callB (kLen (K := K) rfl) (by rfl) B.len PySem.boot_len (pa_cons (pv 0) pa_nil)) pe_int (nomark _))
      (pss_one (ps_set (i := 2) sc__law_at.nd rfl (.inl rfl) (pe_ix (kIxL (K := K) rfl) (pv 0) (pe_op op_mod (pv 1) (pe_callB (kLen (K := K) rfl) (by rfl) B.len PySem.boot_len (pa_cons (pv 0) pa_nil))) (fun _ _ => rfl))))
      pss_nil)
    (pss_one (ps_ret (pe_op op_mod (pe_op op_mul (pe_op op_add (pv 2) (pe_op op_mul pe_int (pv 1))) pe_int) pe_int))))), ?_⟩
  walk_at "go"
  refine ⟨_, _, rfl, .inl hS, ?_⟩
  walk_at "go"
  have lm : (ns.map V.int).length = ns.length := List.length_map _
  refine ite2 (fun c => ?_) (fun c => ?_)
  · have c' : (0 : Int) < ((ns.map V.int).length : Int) := of_decide_eq_true c
    walk_at "go"
    refine ⟨_, _, rfl, .inl hS, ?_⟩
    walk_at "go"
    have hm0 : 0 ≤ k % ((ns.map V.int).length : Int) := Int.emod_nonneg _ (by omega)
    have hm1 : k % ((ns.map V.int).length : Int) < ((ns.map V.int).length : Int) := Int.emod_lt_of_pos _ c'
    obtain ⟨j, hj⟩ : ∃ j : Nat, k % ((ns.map V.int).length : Int) = (j : Int) := ⟨(k % ((ns.map V.int).length : Int)).toNat, by omega⟩
    have hjl : j < ns.length := by omega
    refine ⟨_, _, _, .int ns[j], rfl, rfl, hS, ?_, ?_⟩
    · rw [hj]
      exact atI_nat (by rw [List.getElem?_map, List.getElem?_eq_getElem hjl]; rfl)
    walk_at "go"
    exact q _ (Int.emod_nonneg _ (by decide)) (Int.emod_lt_of_pos _ (by decide))
  · walk_at "go"
    exact q _ (Int.emod_nonneg _ (by decide)) (Int.emod_lt_of_pos _ (by decide))

theorem atMem {xs : List Int} {i : Int} (h0 : 0 ≤ i) (h1 : i < xs.length) : ∃ v, atI (xs.map V.int) i = some (.int v) ∧ v ∈ xs := by
  obtain ⟨j, rfl⟩ : ∃ j : Nat, i = (j : Int) := ⟨i.toNat, by omega⟩
  have hj : j < xs.length := by omega
  exact ⟨xs[j], atI_nat (intAt hj), List.getElem_mem _⟩
abbrev s__law_tops : Stmt := topS 28
theorem sc__law_tops : FnScope ["_law_script", "_law_cell", "_law_many", "_law_most", "_law_found", "_law_k"] ["_law_script"] (defScope s__law_tops) := ⟨rfl, rfl, rfl, by decide +kernel, rfl, by decide +kernel, by decide +kernel⟩

def spTopsG (K : PySem.W.Frag) : Sp := fun vs H Q _ => ∃ (a : Addr) (ns : List Int), vs = [.ref a] ∧ SqL K H a (ns.map V.int) ∧ ns.length ≤ 63 ∧ ∀ (p : Addr) (H' : Hp) (tops : List Int), H p = none → Same H H' → H' p = some (.lst (tops.map V.int)) → TopsW tops → Q (.ref p) H'
theorem ok__law_tops {f : Addr} {fd : FuncData} {k : Nat} (F : Fun K "_law_tops" "_law_tops" s__law_tops f fd) (B : Bl mg) (c__law_at : C8.Cal P w K mg base k "_law_at" (spAt K) []) : FnOk P w K mg base CX0 (k + 1) f fd ["_law_script"] (spTopsG K) := by
  refine F.ok sc__law_tops (fun vs H Q E h => ?_) (fun cdv A outer s H vs Q E hr h => ?_)
  · obtain ⟨a, ns, rfl, _⟩ := h
    rfl
  obtain ⟨a, ns, rfl, hS, h63, q⟩ := h
  refine ⟨_, (pss_cons (ps_set (i := 1) sc__law_tops.nd rfl (.inl rfl) (C8.pe_c c__law_at hr (Nat.le_refl _) (by rfl) (pa_cons (pv 0) (pa_cons pe_int pa_nil))))
    (pss_cons (ps_set (i := 2) sc__law_tops.nd rfl (.inl rfl) (pe_ix (kIxL (K := K) rfl) (pe_lst (pa_cons pe_int (pa_cons pe_int (pa_cons pe_int (pa_cons pe_int pa_nil))))) (pe_op op_mod (pv 1) pe_int) (fun _ _ => rfl)))
    (pss_cons (ps_set (i := 3) sc__law_tops.nd rfl (.inr rfl) (pe_ix (kIxL (K := K) rfl) (pe_lst (pa_cons pe_int (pa_cons pe_int (pa_cons pe_int pa_nil)))) (pe_op op_sub (pv 2) pe_int) (fun _ _ => rfl)))
    (pss_cons (ps_setLc (i := 4) (own := [("_law_k", 5)]) rfl sc__law_tops.nd rfl rfl (sw_true rfl rfl rfl (by decide +kernel)) (pi_range1 (by rfl) B.range (pa_cons (pv 2) pa_nil)) (blkOk_by (own := [("_law_k", 5)]) (N := ["_law_script", "_law_cell", "_law_many", "_law_most", "_law_found", "_law_k"]) (sc := defScope s__law_tops) (by decide +kernel)) (fun _ _ _ _ _ => (pgN (i := 5) sc__law_tops.nd rfl (.inl rfl) (.inr rfl))) (fun _ _ _ _ _ => pts_nil) (fun _ _ _ _ _ => (pe_op op_mod (C8.pe_c c__law_at hr (Nat.le_refl _) (by rfl) (pa_cons (pv 0) (pa_cons (pe_op op_add pe_int (pv 5)) pa_nil))) (pv 3))))
    (pss_cons (ps_if (pt_cmpR op_eq (pe_op op_mod (pe_op op_fdiv (pv 1) pe_int) pe_int) pe_int (nomark _))
      (pss_one (ps_asg pe_int (pg_sub (pv 4) (pe_op op_mod (pe_op op_fdiv (pv 1) pe_int) (pv 2)) set_list)))
      pss_nil)
    (pss_one (ps_ret (pv 4)))))))), ?_⟩
  refine ⟨_, rfl, a, ns, 0, rfl, hS, h63, by omega, by omega, fun cell c0 c1 => ?_⟩
  refine ⟨by show 4 ≤ sizeLine; decide, fun L nL => ?_⟩
  obtain ⟨many, em, mm⟩ := atMem (xs := [1, 2, 2, 3]) (i := cell % 4) (by omega) (by show cell % 4 < ((4 : Nat) : Int); omega)
  have m0 : 1 ≤ many ∧ many ≤ 3 := by
    simp at mm
    omega
  have s1 : Same H (upd H L (.lst ([1, 2, 2, 3].map V.int))) := sameNew nL
  refine ⟨_, rfl, _, _, rfl, rfl, (show (0 : Int) < 4 by decide), _, _, _, _, rfl, rfl, .of upd_same, em, ?_⟩
  refine ⟨by show 3 ≤ sizeLine; decide, fun L2 nL2 => ?_⟩
  obtain ⟨most, em2, mm2⟩ := atMem (xs := [10, 4, 3]) (i := many - 1) (by omega) (by show many - 1 < ((3 : Nat) : Int); omega)
  have m1 : 1 ≤ most ∧ most ≤ 10 := by
    simp at mm2
    omega
  have s2 : Same H (upd (upd H L (.lst ([1, 2, 2, 3].map V.int))) L2 (.lst ([10, 4, 3].map V.int))) := Same.trans s1 (sameNew nL2)
  refine ⟨_, rfl, _, _, rfl, rfl, _, _, _, _, rfl, rfl, .of upd_same, em2, ?_⟩
  refine ⟨_, rfl, _, rfl, by omega, by omega, fun D nD => ?_⟩
  refine lc_it walk_range (Made (upd (upd H L (.lst ([1, 2, 2, 3].map V.int))) L2 (.lst ([10, 4, 3].map V.int))) D (RP fun _ i => 0 ≤ i ∧ i ≤ 9)) (made0 nD) (fun _ _ _ _ => trivial) (fun i x H1 H2 hi p y => ?_) (fun H1 p => ?_)
  · obtain ⟨rfl, rfl⟩ := y
    refine ⟨rfl, ?_⟩
    refine lcYes ?_
    refine ⟨_, rfl, _, rfl, _, _, rfl, rfl, a, ns, _, rfl, Same.seq p.same (Same.seq s2 hS), h63, by omega, by omega, fun z z0 z1 => ?_⟩
    refine ⟨_, rfl, _, _, rfl, rfl, (show (0 : Int) < most by omega), ?_⟩
    have e0 : 0 ≤ z % most := Int.emod_nonneg _ (by omega)
    have e1 : z % most < most := Int.emod_lt_of_pos _ (by omega)
    exact p.push nD (stRP _) (by omega) (Same.refl _) ⟨_, rfl, by omega, by omega⟩
  obtain ⟨tops, lt, eD, s3, wt⟩ := madeRP p
  have s4 := Same.trans s2 s3
  have nDH : H D = none := Same.free s2 nD
  have w1 : ∀ t ∈ tops, 0 ≤ t ∧ t ≤ 9 := fun t ht => by
    obtain ⟨j, hj⟩ := List.mem_iff_getElem?.mp ht
    exact wt j t hj
  refine ⟨_, rfl, _, _, rfl, rfl, ⟨(show (0 : Int) < 4 by decide), (show (4 : Int) < 1073741824 by decide)⟩, _, _, rfl, rfl, (show (0 : Int) < 16 by decide), rfl, _, rfl, ?_⟩
  refine yesDec (fun c => ?_) (fun c => ?_)
  · refine ⟨_, rfl, _, rfl, _, _, rfl, rfl, ⟨(show (0 : Int) < 64 by decide), (show (64 : Int) < 1073741824 by decide)⟩, _, rfl, _, _, rfl, rfl, (show (0 : Int) < many by omega), ?_⟩
    have e0 : 0 ≤ cell / 64 % many := Int.emod_nonneg _ (by omega)
    have e1 : cell / 64 % many < many := Int.emod_lt_of_pos _ (by omega)
    refine ⟨D, _, _, (cell / 64 % many).toNat, rfl, rfl, eD, ?_, ?_⟩
    · unfold ixN
      rw [if_pos e0, if_pos (by simp; omega)]
    refine ⟨_, rfl, q D _ (tops.set (cell / 64 % many).toNat 9) nDH (sameMut s4 nDH) ?_ ⟨by simp; omega, by simp; omega, fun t ht => ?_⟩⟩
    · rw [upd_same, List.map_set]
    · rcases List.mem_or_eq_of_mem_set ht with h | h
      · exact w1 t h
      · omega
  · exact ⟨_, rfl, q D _ tops nDH s4 eD ⟨by omega, by omega, w1⟩⟩
abbrev s__law_unit : Stmt := topS 29
theorem sc__law_unit : FnScope ["_law_many", "_law_box", "_law_number", "_law_more", "_law_numbers"] ["_law_many", "_law_box", "_law_number", "_law_more"] (defScope s__law_unit) := ⟨rfl, rfl, rfl, by decide +kernel, rfl, by decide +kernel, by decide +kernel⟩

def unitOf (many : Nat) (box : Nat) (number more : Int) : Sm := ((List.replicate many 0).set box number, more)
def spUnit (K : PySem.W.Frag) : Sp := fun vs H Q _ => ∃ (many : Nat) (bi number more : Int), vs = [.int (many : Int), .int bi, .int number, .int more] ∧ 0 ≤ bi ∧ bi < many ∧ many ≤ 3 ∧ ∀ H' v, Same H H' → SumIn K H' v (unitOf many bi.toNat number more) → Q v H'
theorem unitW {many box : Nat} {number more : Int} (h : -9 ≤ number ∧ number ≤ 9) (h' : -99 ≤ more ∧ more ≤ 99) : SumW many (unitOf many box number more) := by
  refine ⟨by simp [unitOf], fun n hn => ?_, h'.1, h'.2⟩
  rcases List.mem_or_eq_of_mem_set hn with h2 | h2
  · have := List.eq_of_mem_replicate h2
    omega
  · omega
theorem ok__law_unit {f : Addr} {fd : FuncData} {k : Nat} (F : Fun K "_law_unit" "_law_unit" s__law_unit f fd) (B : Bl mg) : FnOk P w K mg base CX0 (k + 1) f fd ["_law_many", "_law_box", "_law_number", "_law_more"] (spUnit K) := by
  refine F.ok sc__law_unit (fun vs H Q E h => ?_) (fun cdv A outer s H vs Q E hr h => ?_)
  · obtain ⟨many, bi, number, more, rfl, _⟩ := h
    rfl
  obtain ⟨many, bi, number, more, rfl, hb0, hb, hm, q⟩ := h
  refine ⟨_, (pss_cons (ps_set (i := 4) sc__law_unit.nd rfl (.inl rfl) (pe_op op_rep (pe_lst (pa_cons pe_int pa_nil)) (pv 0)))
    (pss_cons (ps_asg (pv 2) (pg_sub (pv 4) (pv 1) set_list))
    (pss_one (ps_ret (pe_tup (pa_cons (pe_callTy (kTup (K := K) rfl) (by rfl) B.tuple (by decide +kernel) (pa_cons (pv 4) pa_nil)) (pa_cons (pv 3) pa_nil))))))), ?_⟩
  have szl : (1000 : Nat) ≤ sizeLine := by decide
  refine ⟨by show 1 ≤ sizeLine; decide, fun L nL => ?_⟩
  refine ⟨_, rfl, _, _, _, rfl, rfl, upd_same, by omega, by omega, by simp; omega, fun D nD => ?_⟩
  have s1 : Same H (upd H L (.lst [.int 0])) := sameNew nL
  have nDH : H D = none := Same.free s1 nD
  have e1 : (List.replicate ((many : Int)).toNat [V.int 0]).flatten = (List.replicate many (0 : Int)).map V.int := by simp [List.map_replicate]
  rw [e1]
  refine ⟨_, rfl, _, rfl, _, rfl, D, _, _, bi.toNat, rfl, rfl, upd_same, ?_, ?_⟩
  · unfold ixN
    rw [if_pos hb0, if_pos (by simp; omega)]
  have s2 : Same H (upd (upd (upd H L (.lst [.int 0])) D (.lst ((List.replicate many (0 : Int)).map V.int))) D (.lst (((List.replicate many (0 : Int)).map V.int).set bi.toNat (.int number)))) := sameMut (Same.trans s1 (sameNew nD)) nDH
  refine ⟨_, rfl, _, _, rfl, .inl ⟨.of upd_same, fun T nT => ⟨_, rfl, by show 2 ≤ sizeLine; decide, fun U nU => ?_⟩⟩⟩
  refine q _ _ (Same.trans s2 (Same.trans (sameNew nT) (sameNew nU))) ⟨U, T, rfl, .of upd_same, tupS (sameNew nU) (.of ?_)⟩
  rw [upd_same]
  simp [unitOf, List.map_set]

end

end LW

namespace LW
open PySem PySem.Spec PyProof.Rows L2
local macro_rules | `(tactic| walk_at "go1") => `(tactic| first
  | refine ⟨_, rfl, ?_⟩
  | refine ⟨_, _, rfl, rfl, ?_⟩
  | refine ⟨show (0 : Int) < _ from by omega, ?_⟩
  | refine ⟨show CMul _ _ from by first | exact .inl ⟨by omega, by omega⟩ | exact .inr ⟨by omega, by omega⟩, ?_⟩
  | refine ⟨show CDiv _ _ from ⟨by omega, by omega⟩, ?_⟩)
local macro_rules | `(tactic| walk_at "go") => `(tactic| repeat walk_at "go1")

section
variable {P : Program} {w : World} {K : PySem.W.Frag} {mg : Str → Option Value} {base : Heap}

abbrev s__law_word : Stmt := topS 30
theorem sc__law_word : FnScope ["_law_cell", "_law_many", "_law_way", "_law_box", "_law_more", "_law_numbers", "_law_k"] ["_law_cell", "_law_many"] (defScope s__law_word) := ⟨rfl, rfl, rfl, by decide +kernel, rfl, by decide +kernel, by decide +kernel⟩

def spWord (K : PySem.W.Frag) : Sp := fun vs H Q _ => ∃ (cell : Int) (many : Nat), vs = [.int cell, .int (many : Int)] ∧ 0 ≤ cell ∧ 1 ≤ many ∧ many ≤ 3 ∧ ∀ H' v s, Same H H' → SumIn K H' v s → SumW many s → Q v H'
theorem ok__law_word {f : Addr} {fd : FuncData} {k : Nat} (F : Fun K "_law_word" "_law_word" s__law_word f fd) (B : Bl mg) (c__law_unit : C8.Cal P w K mg base k "_law_unit" (spUnit K) []) : FnOk P w K mg base CX0 (k + 1) f fd ["_law_cell", "_law_many"] (spWord K) := by
  refine F.ok sc__law_word (fun vs H Q E h => ?_) (fun cdv A outer s H vs Q E hr h => ?_)
  · obtain ⟨cell, many, rfl, _⟩ := h
    rfl
  obtain ⟨cell, many, rfl, c0, hm1, hm, q⟩ := h
  refine ⟨_, (pss_cons (ps_set (i := 2) sc__law_word.nd rfl (.inl rfl) (pe_op op_mod (pv 0) pe_int))
    (pss_cons (ps_set (i := 3) sc__law_word.nd rfl (.inl rfl) (pe_op op_mod (pe_op op_fdiv (pv 0) pe_int) (pv 1)))
    (pss_cons (ps_set (i := 4) sc__law_word.nd rfl (.inl rfl) (pe_op op_mod (pe_op op_fdiv (pv 0) pe_int) pe_int))
    (pss_cons (ps_if (pt_cmpR op_lt (pv 2) pe_int (nomark _))
      (pss_one (ps_ret (C8.pe_c c__law_unit hr (Nat.le_refl _) (by rfl) (pa_cons (pv 1) (pa_cons (pv 3) (pa_cons pe_int (pa_cons (pe_un un_neg (pv 4)) pa_nil)))))))
      pss_nil)
    (pss_cons (ps_if (pt_cmpR op_lt (pv 2) pe_int (nomark _))
      (pss_one (ps_ret (C8.pe_c c__law_unit hr (Nat.le_refl _) (by rfl) (pa_cons (pv 1) (pa_cons (pv 3) (pa_cons (pe_un un_neg pe_int) (pa_cons (pv 4) pa_nil)))))))
      pss_nil)
    (C8.pss_cut (ps_if (PW.pt (pw_and (pt_cmpR op_eq (pv 2) pe_int (nomark _)) (pw_and1 (pt_cmpR op_gt (pv 1) pe_int (nomark _)))))
      (pss_cons (ps_set (i := 5) sc__law_word.nd rfl (.inl rfl) (pe_callTy (kList (K := K) rfl) (by rfl) B.list (by decide +kernel) (pa_cons (pe_ix (kIxT (K := K) rfl) (C8.pe_c c__law_unit hr (Nat.le_refl _) (by rfl) (pa_cons (pv 1) (pa_cons (pv 3) (pa_cons pe_int (pa_cons pe_int pa_nil))))) pe_int (fun _ _ => rfl)) pa_nil)))
      (pss_cons (ps_asg (pe_un un_neg pe_int) (pg_sub (pv 5) (pe_op op_mod (pe_op op_add (pv 3) pe_int) (pv 1)) set_list))
      (pss_one (ps_ret (pe_tup (pa_cons (pe_callTy (kTup (K := K) rfl) (by rfl) B.tuple (by decide +kernel) (pa_cons (pv 5) pa_nil)) (pa_cons (pe_op op_sub (pe_op op_mod (pe_op op_fdiv (pv 0) pe_int) pe_int) pe_int) pa_nil)))))))
      pss_nil)
    (pss_cons (ps_if (pt_cmpR op_gt (pe_op op_mod (pe_op op_fdiv (pv 0) pe_int) pe_int) pe_int (nomark _))
      (pss_one (ps_ret (pe_tup (pa_cons (pe_callTy (kTup (K := K) rfl) (by rfl) B.tuple (by decide +kernel) (pa_cons (pe_lc (own := [("_law_k", 6)]) rfl sc__law_word.nd (pi_range1 (by rfl) B.range (pa_cons (pv 1) pa_nil)) (blkOk_by (own := [("_law_k", 6)]) (N := ["_law_cell", "_law_many", "_law_way", "_law_box", "_law_more", "_law_numbers", "_law_k"]) (sc := defScope s__law_word) (by decide +kernel)) (fun _ _ _ _ _ => (pgN (i := 6) sc__law_word.nd rfl (.inl rfl) (.inr rfl))) (fun _ _ _ _ _ => pts_nil) (fun _ _ _ _ _ => (pe_op op_sub (pe_op op_mod (pe_op op_fdiv (pv 0) (pe_ix (kIxL (K := K) rfl) (pe_lst (pa_cons pe_int (pa_cons pe_int (pa_cons pe_int pa_nil)))) (pv 6) (fun _ _ => rfl))) pe_int) pe_int))) pa_nil)) (pa_cons (pe_op op_sub (pe_op op_mod (pe_op op_fdiv (pv 0) pe_int) pe_int) pe_int) pa_nil)))))
      pss_nil)
    (pss_one (ps_ret (pe_tup (pa_cons (pe_callTy (kTup (K := K) rfl) (by rfl) B.tuple (by decide +kernel) (pa_cons (pe_lc (own := [("_law_k", 6)]) rfl sc__law_word.nd (pi_range1 (by rfl) B.range (pa_cons (pv 1) pa_nil)) (blkOk_by (own := [("_law_k", 6)]) (N := ["_law_cell", "_law_many", "_law_way", "_law_box", "_law_more", "_law_numbers", "_law_k"]) (sc := defScope s__law_word) (by decide +kernel)) (fun _ _ _ _ _ => (pgN (i := 6) sc__law_word.nd rfl (.inl rfl) (.inr rfl))) (fun _ _ _ _ _ => pts_nil) (fun _ _ _ _ _ => (pe_op op_sub (pe_op op_mod (pe_op op_fdiv (pv 0) (pe_ix (kIxL (K := K) rfl) (pe_lst (pa_cons pe_int (pa_cons pe_int (pa_cons pe_int pa_nil)))) (pv 6) (fun _ _ => rfl))) pe_int) pe_int))) pa_nil)) (pa_cons (pe_op op_sub (pe_op op_mod (pe_op op_fdiv (pv 0) pe_int) pe_int) pe_int) pa_nil)))))))))))), ?_⟩
  have b0 : 0 ≤ cell / 6 % (many : Int) := Int.emod_nonneg _ (by omega)
  have b1 : cell / 6 % (many : Int) < many := Int.emod_lt_of_pos _ (by omega)
  have d0 : ∀ z : Int, CDiv z 6 ∧ CDiv z 18 ∧ CDiv z 90 ∧ CDiv z 2250 ∧ CDiv z 7 ∧ CDiv z 450 ∧ CDiv z 342 ∧ CDiv z 6498 := fun z => ⟨⟨by decide, by decide⟩, ⟨by decide, by decide⟩, ⟨by decide, by decide⟩, ⟨by decide, by decide⟩, ⟨by decide, by decide⟩, ⟨by decide, by decide⟩, ⟨by decide, by decide⟩, ⟨by decide, by decide⟩⟩
  refine ⟨_, rfl, _, _, rfl, rfl, (show (0 : Int) < 6 by decide), ?_⟩
  refine ⟨_, rfl, _, _, rfl, rfl, (d0 _).1, _, rfl, _, _, rfl, rfl, (show (0 : Int) < (many : Int) by omega), ?_⟩
  refine ⟨_, rfl, _, _, rfl, rfl, (d0 _).2.1, _, _, rfl, rfl, (show (0 : Int) < 5 by decide), ?_⟩
  have u0 : 0 ≤ cell / 18 % 5 := by omega
  have u1 : cell / 18 % 5 < 5 := by omega
  refine ⟨_, rfl, _, _, rfl, rfl, _, rfl, ?_⟩
  refine yesDec (fun c => ?_) (fun c => ?_)
  · exact ⟨_, rfl, _, rfl, _, rfl, _, rfl, many, _, 1, _, rfl, b0, b1, hm, fun H' v sm hs => q H' v _ sm hs (unitW (by omega) (by omega))⟩
  refine ⟨_, rfl, _, _, rfl, rfl, _, rfl, ?_⟩
  refine yesDec (fun c => ?_) (fun c => ?_)
  · exact ⟨_, rfl, _, rfl, _, rfl, _, rfl, many, _, -1, _, rfl, b0, b1, hm, fun H' v sm hs => q H' v _ sm hs (unitW (by omega) (by omega))⟩
  refine ⟨fun σ' H' => H' = H ∧ σ' = [some (.int cell), some (.int (many : Int)), some (.int (cell % 6)), some (.int (cell / 6 % (many : Int))), some (.int (cell / 18 % 5)), none, none], ?_, ?_⟩
  · refine ⟨_, rfl, rfl, _, rfl, ?_⟩
    refine yesDec (fun c => ?_) (fun c => ?_)
    · refine ⟨_, rfl, _, _, rfl, rfl, _, rfl, ?_⟩
      refine yesDec (fun c2 => ?_) (fun c2 => ?_)
      · refine ⟨_, rfl, _, rfl, many, _, 1, 0, rfl, b0, b1, hm, fun H1 v s1 hs => ?_⟩
        obtain ⟨U, T, rfl, o1, o2⟩ := hs
        refine ⟨_, _, _, _, rfl, rfl, o1, atI_nat (j := 0) rfl, _, _, rfl, .inr o2, fun L nL => ?_⟩
        have nLH : H L = none := Same.free s1 nL
        have g0 : 0 ≤ (cell / 6 % (many : Int) + 1) % (many : Int) := Int.emod_nonneg _ (by omega)
        have g1 : (cell / 6 % (many : Int) + 1) % (many : Int) < many := Int.emod_lt_of_pos _ (by omega)
        refine ⟨_, rfl, _, rfl, _, rfl, _, _, rfl, rfl, _, rfl, _, _, rfl, rfl, (show (0 : Int) < (many : Int) by omega), L, _, _, ((cell / 6 % (many : Int) + 1) % (many : Int)).toNat, rfl, rfl, upd_same, ?_, ?_⟩
        · have hlen : ((unitOf many (cell / 6 % (many : Int)).toNat 1 0).1.map V.int).length = many := by simp [unitOf]
          unfold ixN
          rw [hlen, if_pos g0, if_pos g1]
        refine ⟨_, rfl, _, _, rfl, .inl ⟨.of upd_same, fun T2 nT2 => ⟨_, rfl, _, _, rfl, rfl, (d0 _).2.2.1, _, _, rfl, rfl, (show (0 : Int) < 5 by decide), _, _, rfl, rfl, by show 2 ≤ sizeLine; decide, fun U2 nU2 => ?_⟩⟩⟩
        refine q _ _ ((unitOf many (cell / 6 % (many : Int)).toNat 1 0).1.set ((cell / 6 % (many : Int) + 1) % (many : Int)).toNat (-1), cell / 90 % 5 - 2) (Same.trans (sameMut (Same.trans s1 (sameNew nL)) nLH) (Same.trans (sameNew nT2) (sameNew nU2))) ⟨U2, T2, rfl, .of upd_same, tupS (sameNew nU2) (.of ?_)⟩ ⟨by simp [unitOf], fun n hn => ?_, by omega, by omega⟩
        · rw [upd_same, List.map_set]
        · rcases List.mem_or_eq_of_mem_set hn with h2 | h2
          · exact (unitW (many := many) (box := (cell / 6 % (many : Int)).toNat) (number := 1) (more := 0) (by omega) (by omega)).2.1 n h2
          · omega
      · exact ⟨rfl, rfl⟩
    · exact ⟨rfl, rfl⟩
  · rintro σ' H' ⟨rfl, rfl⟩
    have szl : (1000 : Nat) ≤ sizeLine := by decide
    refine ⟨_, rfl, _, _, rfl, rfl, (d0 _).2.2.1, _, _, rfl, rfl, (show (0 : Int) < 4 by decide), _, _, rfl, rfl, _, rfl, ?_⟩
    refine yesDec (fun c3 => ?_) (fun c3 => ?_)
    · refine ⟨_, rfl, _, rfl, by omega, by omega, fun D nD => ?_⟩
      refine lc_it walk_range (Made H' D (RP fun _ i => -9 ≤ i ∧ i ≤ 9)) (made0 nD) (fun _ _ _ _ => trivial) (fun i x H1 H2 hi p y => ?_) (fun H1 p => ?_)
      · obtain ⟨rfl, rfl⟩ := y
        refine ⟨rfl, ?_⟩
        refine lcYes ?_
        obtain ⟨z, ez, mz⟩ := atMem (xs := [18, 90, 450]) (i := 0 + (i : Int)) (by omega) (by show 0 + (i : Int) < ((3 : Nat) : Int); omega)
        have hz : 18 ≤ z ∧ z ≤ 450 := by
          simp at mz
          omega
        refine ⟨_, rfl, by show 3 ≤ sizeLine; decide, fun L nL => ⟨_, rfl, _, _, _, _, rfl, rfl, .of upd_same, ez, _, _, rfl, rfl, ⟨by omega, by omega⟩, _, _, rfl, rfl, (show (0 : Int) < 5 by decide), _, _, rfl, rfl, ?_⟩⟩
        exact p.push nD (stRP _) (by omega) (sameNew nL) ⟨_, rfl, by omega, by omega⟩
      · obtain ⟨ns, ln, eD, s3, wn⟩ := madeRP p
        refine ⟨_, _, rfl, .inl ⟨.of eD, fun T nT => ⟨_, rfl, _, _, rfl, rfl, (d0 _).2.2.2.1, _, _, rfl, rfl, (show (0 : Int) < 13 by decide), _, _, rfl, rfl, by show 2 ≤ sizeLine; decide, fun U nU => ?_⟩⟩⟩
        refine q _ _ (ns, cell / 2250 % 13 - 6) (Same.trans s3 (Same.trans (sameNew nT) (sameNew nU))) ⟨U, T, rfl, .of upd_same, tupS (sameNew nU) (.of upd_same)⟩ ⟨by show ns.length = many; omega, fun n hn => ?_, by show -99 ≤ cell / 2250 % 13 - 6; omega, by show cell / 2250 % 13 - 6 ≤ 99; omega⟩
        obtain ⟨j, hj⟩ := List.mem_iff_getElem?.mp hn
        exact wn j n hj
    · refine ⟨_, rfl, _, rfl, by omega, by omega, fun D nD => ?_⟩
      refine lc_it walk_range (Made H' D (RP fun _ i => -9 ≤ i ∧ i ≤ 9)) (made0 nD) (fun _ _ _ _ => trivial) (fun i x H1 H2 hi p y => ?_) (fun H1 p => ?_)
      · obtain ⟨rfl, rfl⟩ := y
        refine ⟨rfl, ?_⟩
        refine lcYes ?_
        obtain ⟨z, ez, mz⟩ := atMem (xs := [18, 342, 6498]) (i := 0 + (i : Int)) (by omega) (by show 0 + (i : Int) < ((3 : Nat) : Int); omega)
        have hz : 18 ≤ z ∧ z ≤ 6498 := by
          simp at mz
          omega
        refine ⟨_, rfl, by show 3 ≤ sizeLine; decide, fun L nL => ⟨_, rfl, _, _, _, _, rfl, rfl, .of upd_same, ez, _, _, rfl, rfl, ⟨by omega, by omega⟩, _, _, rfl, rfl, (show (0 : Int) < 19 by decide), _, _, rfl, rfl, ?_⟩⟩
        exact p.push nD (stRP _) (by omega) (sameNew nL) ⟨_, rfl, by omega, by omega⟩
      · obtain ⟨ns, ln, eD, s3, wn⟩ := madeRP p
        refine ⟨_, _, rfl, .inl ⟨.of eD, fun T nT => ⟨_, rfl, _, _, rfl, rfl, (d0 _).2.2.2.2.1, _, _, rfl, rfl, (show (0 : Int) < 199 by decide), _, _, rfl, rfl, by show 2 ≤ sizeLine; decide, fun U nU => ?_⟩⟩⟩
        refine q _ _ (ns, cell / 7 % 199 - 99) (Same.trans s3 (Same.trans (sameNew nT) (sameNew nU))) ⟨U, T, rfl, .of upd_same, tupS (sameNew nU) (.of upd_same)⟩ ⟨by show ns.length = many; omega, fun n hn => ?_, by show -99 ≤ cell / 7 % 199 - 99; omega, by show cell / 7 % 199 - 99 ≤ 99; omega⟩
        obtain ⟨j, hj⟩ := List.mem_iff_getElem?.mp hn
        exact wn j n hj
abbrev s__law_into : Stmt := topS 31
theorem sc__law_into : FnScope ["_law_cell", "_law_many", "_law_box", "_law_way"] ["_law_cell", "_law_many", "_law_box"] (defScope s__law_into) := ⟨rfl, rfl, rfl, by decide +kernel, rfl, by decide +kernel, by decide +kernel⟩

def spInto (K : PySem.W.Frag) : Sp := fun vs H Q _ => ∃ (cell : Int) (many : Nat) (box : Int), vs = [.int cell, .int (many : Int), .int box] ∧ 0 ≤ cell ∧ 0 ≤ box ∧ box < many ∧ many ≤ 3 ∧ ∀ H' v s, Same H H' → SumIn K H' v s → SumW many s → Q v H'
theorem ok__law_into {f : Addr} {fd : FuncData} {k : Nat} (F : Fun K "_law_into" "_law_into" s__law_into f fd) (B : Bl mg) (c__law_unit : C8.Cal P w K mg base k "_law_unit" (spUnit K) []) (c__law_word : C8.Cal P w K mg base k "_law_word" (spWord K) []) : FnOk P w K mg base CX0 (k + 1) f fd ["_law_cell", "_law_many", "_law_box"] (spInto K) := by
  refine F.ok sc__law_into (fun vs H Q E h => ?_) (fun cdv A outer s H vs Q E hr h => ?_)
  · obtain ⟨cell, many, box, rfl, _⟩ := h
    rfl
  obtain ⟨cell, many, box, rfl, c0, hb0, hb, hm, q⟩ := h
  refine ⟨_, (pss_cons (ps_set (i := 3) sc__law_into.nd rfl (.inl rfl) (pe_op op_mod (pv 0) pe_int))
    (pss_cons (ps_if (pt_cmpR op_lt (pv 3) pe_int (nomark _))
      (pss_one (ps_ret (C8.pe_c c__law_unit hr (Nat.le_refl _) (by rfl) (pa_cons (pv 1) (pa_cons (pv 2) (pa_cons pe_int (pa_cons (pe_ix (kIxL (K := K) rfl) (pe_lst (pa_cons pe_int (pa_cons pe_int (pa_cons (pe_un un_neg pe_int) pa_nil)))) (pv 3) (fun _ _ => rfl)) pa_nil)))))))
      pss_nil)
    (pss_cons (ps_if (pt_cmpR op_eq (pv 3) pe_int (nomark _))
      (pss_one (ps_ret (C8.pe_c c__law_unit hr (Nat.le_refl _) (by rfl) (pa_cons (pv 1) (pa_cons (pv 2) (pa_cons pe_int (pa_cons (pe_op op_mod (pe_op op_fdiv (pv 0) pe_int) pe_int) pa_nil)))))))
      pss_nil)
    (pss_cons (ps_if (pt_cmpR op_eq (pv 3) pe_int (nomark _))
      (pss_one (ps_ret (C8.pe_c c__law_unit hr (Nat.le_refl _) (by rfl) (pa_cons (pv 1) (pa_cons (pe_op op_mod (pe_op op_fdiv (pv 0) pe_int) (pv 1)) (pa_cons pe_int (pa_cons (pe_op op_sub (pe_op op_mod (pe_op op_fdiv (pv 0) pe_int) pe_int) pe_int) pa_nil)))))))
      pss_nil)
    (pss_one (ps_ret (C8.pe_c c__law_word hr (Nat.le_refl _) (by rfl) (pa_cons (pe_op op_fdiv (pv 0) pe_int) (pa_cons (pv 1) pa_nil))))))))), ?_⟩
  have d7 : ∀ z : Int, CDiv z 7 ∧ CDiv z 21 := fun z => ⟨⟨by decide, by decide⟩, ⟨by decide, by decide⟩⟩
  refine ⟨_, rfl, _, _, rfl, rfl, (show (0 : Int) < 7 by decide), ?_⟩
  refine ⟨_, rfl, _, _, rfl, rfl, _, rfl, ?_⟩
  refine yesDec (fun c => ?_) (fun c => ?_)
  · obtain ⟨z, ez, mz⟩ := atMem (xs := [1, 1, -1]) (i := cell % 7) (by omega) (by show cell % 7 < ((3 : Nat) : Int); omega)
    have hz : -1 ≤ z ∧ z ≤ 1 := by
      simp at mz
      omega
    exact ⟨_, rfl, _, rfl, _, rfl, by show 3 ≤ sizeLine; decide, fun L nL => ⟨_, rfl, _, _, _, _, rfl, rfl, .of upd_same, ez, many, box, 1, z, rfl, hb0, hb, hm, fun H' v sm hs => q H' v _ (Same.trans (sameNew nL) sm) hs (unitW (by omega) (by omega))⟩⟩
  refine ⟨_, rfl, rfl, _, rfl, ?_⟩
  refine yesDec (fun c => ?_) (fun c => ?_)
  · exact ⟨_, rfl, _, rfl, _, rfl, _, _, rfl, rfl, (d7 _).1, _, _, rfl, rfl, (show (0 : Int) < 5 by decide), many, box, 0, _, rfl, hb0, hb, hm, fun H' v sm hs => q H' v _ sm hs (unitW (by omega) (by omega))⟩
  refine ⟨_, rfl, rfl, _, rfl, ?_⟩
  refine yesDec (fun c => ?_) (fun c => ?_)
  · have b0 : 0 ≤ cell / 7 % (many : Int) := Int.emod_nonneg _ (by omega)
    have b1 : cell / 7 % (many : Int) < many := Int.emod_lt_of_pos _ (by omega)
    exact ⟨_, rfl, _, rfl, _, _, rfl, rfl, (d7 _).1, _, rfl, _, _, rfl, rfl, (show (0 : Int) < (many : Int) by omega), _, rfl, _, _, rfl, rfl, (d7 _).2, _, _, rfl, rfl, (show (0 : Int) < 3 by decide), _, _, rfl, rfl, many, _, 1, _, rfl, b0, b1, hm, fun H' v sm hs => q H' v _ sm hs (unitW (by omega) (by omega))⟩
  exact ⟨_, rfl, _, _, rfl, rfl, (d7 _).1, _, rfl, _, many, rfl, by omega, by omega, hm, fun H' v s sm hs hw => q H' v s sm hs hw⟩

end

end LW

namespace LW
open PySem PySem.Spec PyProof.Rows L2
local macro_rules | `(tactic| walk_at "go1") => `(tactic| first
  | refine ⟨_, rfl, ?_⟩
  | refine ⟨_, _, rfl, rfl, ?_⟩
  | refine ⟨show (0 : Int) < _ from by omega, ?_⟩
  | refine ⟨show CMul _ _ from by first | exact .inl ⟨by omega, by omega⟩ | exact .inr ⟨by omega, by omega⟩, ?_⟩
  | refine ⟨show CDiv _ _ from ⟨by omega, by omega⟩, ?_⟩)
local macro_rules | `(tactic| walk_at "go") => `(tactic| repeat walk_at "go1")

section
variable {P : Program} {w : World} {K : PySem.W.Frag} {mg : Str → Option Value} {base : Heap}

def spGRow (K : PySem.W.Frag) (deep : Nat) : Sp := fun vs H Q _ => ∃ (ds sc tp : Addr) (script tops : List Int) (p l : Int), vs = [.ref ds, .int (deep : Int)] ∧ Stt K H ds sc tp script tops p l ∧ 1 ≤ l ∧ 0 ≤ p ∧ p + 2 * l ≤ 60 ∧ l ≤ 30 ∧
  ∀ (H' : Hp) (v : V) (row : D) (p' l' : Int), But ds H H' → Stt K H' ds sc tp script tops p' l' → Din K H' v row → GRow tops.length deep row → ((cntRow deep row : Nat) : Int) ≤ l - l' → -1 ≤ l' → 0 ≤ p' → p' + 2 * l' ≤ p + 2 * l → Q v H'
def spGRows (K : PySem.W.Frag) (i : Nat) : Sp := fun vs H Q _ => ∃ (ds sc tp : Addr) (script tops : List Int) (p l di most : Int), vs = [.ref ds, .int di, .int most] ∧ di + 1 = (i : Int) ∧ 1 ≤ i ∧ Stt K H ds sc tp script tops p l ∧ -1 ≤ l ∧ 0 ≤ p ∧ p + 2 * l ≤ 60 ∧ l ≤ 30 ∧ 0 ≤ most ∧ most ≤ 100 ∧
  ∀ (H' : Hp) (v : V) (rows : List D) (p' l' : Int), But ds H H' → Stt K H' ds sc tp script tops p' l' → Din K H' v (.tup rows) → (∀ d ∈ rows, GRow tops.length (i - 1) d) → ((cnt i (.tup rows) : Nat) : Int) ≤ l - l' → -1 ≤ l' → 0 ≤ p' → p' + 2 * l' ≤ p + 2 * l → Q v H'
abbrev s__law_rows : Stmt := topS 33
theorem sc__law_rows : FnScope ["_law_state", "_law_deep", "_law_most", "_law_rows_here", "_law_k"] ["_law_state", "_law_deep", "_law_most"] (defScope s__law_rows) := ⟨rfl, rfl, rfl, by decide +kernel, rfl, by decide +kernel, by decide +kernel⟩

theorem ok__law_rows {f : Addr} {fd : FuncData} {k deep : Nat} (F : Fun K "_law_rows" "_law_rows" s__law_rows f fd) (B : Bl mg) (c__law_row : C8.Cal P w K mg base k "_law_row" (spGRow K deep) []) : FnOk P w K mg base CX0 (k + 1) f fd ["_law_state", "_law_deep", "_law_most"] (spGRows K (deep + 1)) := by
  refine F.ok sc__law_rows (fun vs H Q E h => ?_) (fun cdv A outer s H vs Q E hr h => ?_)
  · obtain ⟨ds, sc, tp, script, tops, p, l, di, most, rfl, _⟩ := h
    rfl
  obtain ⟨ds, sc, tp, script, tops, p, l, di, most, rfl, hdi, _, St, l0, p0, pl, l30, m0, m1, q⟩ := h
  have edi : di = (deep : Int) := by omega
  subst edi
  refine ⟨_, (pss_cons (ps_set (i := 3) sc__law_rows.nd rfl (.inl rfl) (pe_tup pa_nil))
    (pss_cons (ps_for PassesOwn.never rfl (pi_range1 (by rfl) B.range (pa_cons (pv 2) pa_nil)) (pg_name (i := 4) sc__law_rows.nd rfl (.inl rfl))
      (pss_one (ps_if (pt_cmpR op_gt (pe_dget (hu_of hr) (pv 0) pe_str (fun _ _ => rfl)) pe_int (nomark _))
        (pss_one (ps_set (i := 3) sc__law_rows.nd rfl (.inl rfl) (pe_op (kCatT (K := K) rfl) (pv 3) (pe_tup (pa_cons (C8.pe_c c__law_row hr (Nat.le_refl _) (by rfl) (pa_cons (pv 0) (pa_cons (pv 1) pa_nil))) pa_nil)))))
        pss_nil)))
    (pss_one (ps_ret (pv 3))))), ?_⟩
  refine ⟨by show 0 ≤ sizeLine; decide, fun T nT => ?_⟩
  refine ⟨_, rfl, _, rfl, by omega, by omega, ?_⟩
  refine for_range (lo := 0) (n := most.toNat) (fun i σ H' => ∃ (t : Addr) (vs : List V) (rows : List D) (y4 : Option V) (p' l' : Int), σ = [some (.ref ds), some (.int (deep : Int)), some (.int most), some (.ref t), y4] ∧ But ds H H' ∧ Stt K H' ds sc tp script tops p' l' ∧ SqT K H' t vs ∧ DinA K H' vs rows ∧
      (∀ d ∈ rows, GRow tops.length deep d) ∧ ((cnt (deep + 1) (.tup rows) : Nat) : Int) ≤ l - l' ∧ -1 ≤ l' ∧ 0 ≤ p' ∧ p' + 2 * l' ≤ p + 2 * l ∧ rows.length ≤ i)
    ⟨T, [], [], none, p, l, rfl, butOf (sameNew nT), St.same (sameNew nT), .of upd_same, .nil, fun d hd => by simp at hd, by simp [cnt], l0, p0, Int.le_refl _, Nat.le_refl _⟩ (fun i σ H' hi w => ?_) (fun σ H' w => ?_)
  · obtain ⟨t, vs, rows, y4, p', l', rfl, b, St1, ht, hA, hg, hc, l0', p0', pl', hlen⟩ := w
    refine ⟨_, rfl, ds, _, rfl, St1.gL, _, _, rfl, rfl, _, rfl, ?_⟩
    refine yesDec (fun c => ?_) (fun c => ?_)
    · refine ⟨_, rfl, _, rfl, _, rfl, ds, sc, tp, script, tops, p', l', rfl, St1, by omega, p0', by omega, by omega, fun H2 v row p2 l2 b2 St2 hd2 hg2 hc2 l20 p20 pl2 => ?_⟩
      have hp : ∀ d ∈ rows, d.pure = true := fun d hd => (hg d hd).2.1
      have ts := butTS b2 St1.d
      refine ⟨by show 1 ≤ sizeLine; decide, fun U nU => ?_⟩
      have ht3 := tupS (sameNew (o := .tup [v]) nU) (tsTup ts ht)
      have hA3 := dinASame (sameNew (o := .tup [v]) nU) (dinATS ts (pures_of hp) hA)
      have lA := hA.len
      refine catUse ht3 (.of upd_same) (by simp; omega) fun r H3 s3 hr3 => ?_
      refine ⟨r, vs ++ [v], rows ++ [row], some (.int (0 + (i : Int))), p2, l2, rfl, But.trans b (But.trans b2 (But.trans (butOf (sameNew nU)) (butOf s3))), (St2.same (sameNew nU)).same s3, hr3,
        dinApp (dinASame s3 hA3) (.cons (dinSame s3 (dinSame (sameNew nU) hd2)) .nil), fun d hd => ?_, ?_, l20, p20, by omega, by simp; omega⟩
      · rcases List.mem_append.mp hd with h | h
        · exact hg d h
        · have : d = row := by simpa using h
          subst this
          exact hg2
      · rw [cnt_tup] at hc ⊢
        rw [List.map_append, List.sum_append]
        simp
        omega
    · exact ⟨t, vs, rows, some (.int (0 + (i : Int))), p', l', rfl, b, St1, ht, hA, hg, hc, l0', p0', pl', by omega⟩
  · obtain ⟨t, vs, rows, y4, p', l', rfl, b, St1, ht, hA, hg, hc, l0', p0', pl', _⟩ := w
    exact ⟨_, rfl, q H' _ rows p' l' b St1 (.tup ht hA) hg hc l0' p0' pl'⟩
theorem decT {p : Prop} [Decidable p] {A B : Prop} (h : p) (a : A) : if decide p = true then A else B := by rw [decide_eq_true h]; exact iteT a
theorem orE {p r : Prop} [Decidable p] {A X : Prop} (h : p ∨ r) (hA : A) (hX : r → A → X) : if decide p = true then A else X := yesDec (fun _ => hA) (fun c => hX (h.resolve_left c) hA)
theorem andE {B X : Prop} (h : B → X) (b : B) : X := h b
abbrev s__law_row : Stmt := topS 32
theorem sc__law_row : FnScope ["_law_state", "_law_deep", "_law_cell", "_law_more", "_law_many", "_law_way", "_law_box", "_law_first", "_law_words", "_law_k", "_law_one", "_law_body", "_law_word_here"] ["_law_state", "_law_deep"] (defScope s__law_row) := ⟨rfl, rfl, rfl, by decide +kernel, rfl, by decide +kernel, by decide +kernel⟩

theorem ok__law_row {f : Addr} {fd : FuncData} {k deep : Nat} (F : Fun K "_law_row" "_law_row" s__law_row f fd) (B : Bl mg) (c__law_at : C8.Cal P w K mg base k "_law_at" (spAt K) []) (c__law_into : C8.Cal P w K mg base k "_law_into" (spInto K) []) (c__law_word : C8.Cal P w K mg base k "_law_word" (spWord K) [])
    (c__law_unit : C8.Cal P w K mg base k "_law_unit" (spUnit K) []) (c__law_rows : C8.Cal P w K mg base k "_law_rows" (spGRows K deep) []) : FnOk P w K mg base CX0 (k + 1) f fd ["_law_state", "_law_deep"] (spGRow K deep) := by
  refine F.ok sc__law_row (fun vs H Q E h => ?_) (fun cdv A outer s H vs Q E hr h => ?_)
  · obtain ⟨ds, sc, tp, script, tops, p, l, rfl, _⟩ := h
    rfl
  obtain ⟨ds, sc, tp, script, tops, p, l, rfl, St, l0, p0, pl, l30, q⟩ := h
  refine ⟨_, (pss_cons (ps_set (i := 2) sc__law_row.nd rfl (.inl rfl) (C8.pe_c c__law_at hr (Nat.le_refl _) (by rfl) (pa_cons (pe_dget (hu_of hr) (pv 0) pe_str (fun _ _ => rfl)) (pa_cons (pe_dget (hu_of hr) (pv 0) pe_str (fun _ _ => rfl)) pa_nil))))
    (pss_cons (ps_set (i := 3) sc__law_row.nd rfl (.inl rfl) (C8.pe_c c__law_at hr (Nat.le_refl _) (by rfl) (pa_cons (pe_dget (hu_of hr) (pv 0) pe_str (fun _ _ => rfl)) (pa_cons (pe_op op_add (pe_dget (hu_of hr) (pv 0) pe_str (fun _ _ => rfl)) pe_int) pa_nil))))
    (pss_cons (ps_set (i := 4) sc__law_row.nd rfl (.inl rfl) (pe_callB (kLen (K := K) rfl) (by rfl) B.len PySem.boot_len (pa_cons (pe_dget (hu_of hr) (pv 0) pe_str (fun _ _ => rfl)) pa_nil)))
    (pss_cons (ps_dput (hu_of hr) (pv 0) pe_str (pe_op op_add (pe_dget (hu_of hr) (pv 0) pe_str (fun _ _ => rfl)) pe_int) rfl)
    (pss_cons (ps_dput (hu_of hr) (pv 0) pe_str (pe_op op_sub (pe_dget (hu_of hr) (pv 0) pe_str (fun _ _ => rfl)) pe_int) rfl)
    (pss_cons (ps_set (i := 5) sc__law_row.nd rfl (.inl rfl) (pe_op op_mod (pv 2) pe_int))
    (pss_cons (ps_set (i := 6) sc__law_row.nd rfl (.inl rfl) (pe_op op_mod (pe_op op_fdiv (pv 2) pe_int) (pv 4)))
    (pss_cons (ps_if (PW.pt (pw_or (pt_cmpR op_lt (pv 5) pe_int (nomark _)) (pw_or1 (PW.pt (pw_and (pt_cmpR op_eq (pv 1) pe_int (nomark _)) (pw_and1 (pt_cmpR op_gt (pv 5) pe_int (nomark _))))))))
      (pss_one (ps_ret (pe_tup (pa_cons pe_str (pa_cons (pv 6) (pa_cons (C8.pe_c c__law_into hr (Nat.le_refl _) (by rfl) (pa_cons (pv 3) (pa_cons (pv 4) (pa_cons (pv 6) pa_nil)))) pa_nil))))))
      pss_nil)
    (pss_cons (ps_if (pt_cmpR op_lt (pv 5) pe_int (nomark _))
      (pss_one (ps_ret (pe_tup (pa_cons pe_str (pa_cons (C8.pe_c c__law_word hr (Nat.le_refl _) (by rfl) (pa_cons (pv 3) (pa_cons (pv 4) pa_nil))) pa_nil)))))
      pss_nil)
    (pss_cons (ps_if (pt_cmpR op_lt (pv 5) pe_int (nomark _))
      (pss_cons (ps_set (i := 7) sc__law_row.nd rfl (.inl rfl) (C8.pe_c c__law_rows hr (Nat.le_refl _) (by rfl) (pa_cons (pv 0) (pa_cons (pe_op op_sub (pv 1) pe_int) (pa_cons (pe_op op_mod (pe_op op_fdiv (pv 2) pe_int) pe_int) pa_nil)))))
      (pss_one (ps_ret (pe_tup (pa_cons pe_str (pa_cons (C8.pe_c c__law_word hr (Nat.le_refl _) (by rfl) (pa_cons (pv 3) (pa_cons (pv 4) pa_nil))) (pa_cons (pv 7) (pa_cons (C8.pe_c c__law_rows hr (Nat.le_refl _) (by rfl) (pa_cons (pv 0) (pa_cons (pe_op op_sub (pv 1) pe_int) (pa_cons (pe_op op_mod (pe_op op_fdiv (pv 2) pe_int) pe_int) pa_nil)))) pa_nil))))))))
      pss_nil)
    (pss_cons (ps_dput (hu_of hr) (pv 0) pe_str (pe_op op_sub (pe_dget (hu_of hr) (pv 0) pe_str (fun _ _ => rfl)) pe_int) rfl)
    (pss_cons (ps_set (i := 8) sc__law_row.nd rfl (.inl rfl) (pe_tup pa_nil))
    (pss_cons (ps_for PassesOwn.never rfl (pi_range1 (by rfl) B.range (pa_cons (pe_ix (kIxL (K := K) rfl) (pe_lst (pa_cons pe_int (pa_cons pe_int (pa_cons pe_int (pa_cons pe_int (pa_cons pe_int pa_nil)))))) (pe_op op_mod (pe_op op_fdiv (pv 2) pe_int) pe_int) (fun _ _ => rfl)) pa_nil)) (pg_name (i := 9) sc__law_row.nd rfl (.inl rfl))
      (pss_cons (ps_set (i := 10) sc__law_row.nd rfl (.inl rfl) (C8.pe_c c__law_at hr (Nat.le_refl _) (by rfl) (pa_cons (pe_dget (hu_of hr) (pv 0) pe_str (fun _ _ => rfl)) (pa_cons (pe_op op_add (pe_op op_add (pe_dget (hu_of hr) (pv 0) pe_str (fun _ _ => rfl)) pe_int) (pv 9)) pa_nil))))
      (pss_one (ps_set (i := 8) sc__law_row.nd rfl (.inl rfl) (pe_op (kCatT (K := K) rfl) (pv 8) (pe_tup (pa_cons (C8.pe_c c__law_word hr (Nat.le_refl _) (by rfl) (pa_cons (pv 10) (pa_cons (pv 4) pa_nil))) pa_nil)))))))
    (pss_cons (ps_set (i := 11) sc__law_row.nd rfl (.inl rfl) (pe_tup (pa_cons (pe_tup (pa_cons pe_str (pa_cons (pv 6) (pa_cons (C8.pe_c c__law_unit hr (Nat.le_refl _) (by rfl) (pa_cons (pv 4) (pa_cons (pv 6) (pa_cons pe_int (pa_cons pe_int pa_nil))))) pa_nil)))) pa_nil)))
    (C8.pss_cut (ps_if (pt_cmpR op_eq (pe_op op_mod (pe_op op_fdiv (pv 2) pe_int) pe_int) pe_int (nomark _))
      (pss_one (ps_set (i := 11) sc__law_row.nd rfl (.inl rfl) (pe_tup pa_nil)))
      pss_nil)
    (pss_cons (ps_set (i := 11) sc__law_row.nd rfl (.inl rfl) (pe_op (kCatT (K := K) rfl) (pv 11) (C8.pe_c c__law_rows hr (Nat.le_refl _) (by rfl) (pa_cons (pv 0) (pa_cons (pe_op op_sub (pv 1) pe_int) (pa_cons (pe_op op_mod (pe_op op_fdiv (pv 2) pe_int) pe_int) pa_nil))))))
    (pss_cons (ps_set (i := 12) sc__law_row.nd rfl (.inl rfl) (C8.pe_c c__law_unit hr (Nat.le_refl _) (by rfl) (pa_cons (pv 4) (pa_cons (pv 6) (pa_cons pe_int (pa_cons (pe_op op_sub pe_int (pe_ix (kIxL (K := K) rfl) (pe_dget (hu_of hr) (pv 0) pe_str (fun _ _ => rfl)) (pv 6) (fun _ _ => rfl))) pa_nil))))))
    (C8.pss_cut (ps_if (pt_cmpR op_eq (pe_op op_mod (pe_op op_fdiv (pv 2) pe_int) pe_int) pe_int (nomark _))
      (pss_one (ps_set (i := 12) sc__law_row.nd rfl (.inl rfl) (C8.pe_c c__law_word hr (Nat.le_refl _) (by rfl) (pa_cons (pv 3) (pa_cons (pv 4) pa_nil)))))
      pss_nil)
    (pss_one (ps_ret (pe_tup (pa_cons pe_str (pa_cons (pv 12) (pa_cons (pv 8) (pa_cons (pv 11) pa_nil))))))))))))))))))))))))), ?_⟩
  refine ⟨_, rfl, ds, _, rfl, St.gS, _, rfl, ds, _, rfl, St.gA, sc, script, p, rfl, St.s, St.s63, p0, by omega, fun cell c0 c1 => ?_⟩
  refine ⟨_, rfl, ds, _, rfl, St.gS, _, rfl, ds, _, rfl, St.gA, _, _, rfl, rfl, sc, script, p + 1, rfl, St.s, St.s63, by omega, by omega, fun more d0 d1 => ?_⟩
  refine ⟨_, rfl, ds, _, rfl, St.gT, _, _, rfl, .inl St.t, ?_⟩
  have em : (tops.map V.int).length = tops.length := List.length_map _
  have w1 := St.w.1
  have w3 := St.w.2.1
  generalize hM : (tops.map V.int).length = M at *
  have m1 : 1 ≤ M := by omega
  have m3 : M ≤ 3 := by omega
  rw [← em] at q
  -- the state
  refine ⟨_, rfl, ds, _, rfl, St.gA, _, _, rfl, rfl, _, rfl, ds, _, rfl, St.pA (p + 2), ?_⟩
  have St1 := St.setA (p + 2)
  have b1 : But ds H (upd H ds (.dK (stK sc tp (p + 2) l))) := butUpd
  generalize upd H ds (.dK (stK sc tp (p + 2) l)) = H1 at *
  refine ⟨_, rfl, ds, _, rfl, St1.gL, _, _, rfl, rfl, _, rfl, ds, _, rfl, St1.pL (l - 1), ?_⟩
  have St2 := St1.setL (l - 1)
  have b2 : But ds H (upd H1 ds (.dK (stK sc tp (p + 2) (l - 1)))) := But.trans b1 butUpd
  generalize upd H1 ds (.dK (stK sc tp (p + 2) (l - 1))) = H2 at *
  clear St1 b1 St
  have dv : ∀ z : Int, CDiv z 9 ∧ CDiv z 27 ∧ CDiv z 81 ∧ CDiv z 405 ∧ CDiv z 3240 := fun z => ⟨⟨by decide, by decide⟩, ⟨by decide, by decide⟩, ⟨by decide, by decide⟩, ⟨by decide, by decide⟩, ⟨by decide, by decide⟩⟩
  have x0 : 0 ≤ cell / 9 % (M : Int) := Int.emod_nonneg _ (by omega)
  have x1 : cell / 9 % (M : Int) < M := Int.emod_lt_of_pos _ (by omega)
  refine ⟨_, rfl, _, _, rfl, rfl, (show (0 : Int) < 9 by decide), ?_⟩
  refine ⟨_, rfl, _, _, rfl, rfl, (dv _).1, _, rfl, _, _, rfl, rfl, (show (0 : Int) < (M : Int) by omega), ?_⟩
  refine ⟨_, rfl, _, _, rfl, rfl, _, rfl, ?_⟩
  by_cases hput : cell % 9 < 3 ∨ ((deep : Int) = 0 ∧ 4 < cell % 9)
  · refine orE hput ?_ (fun hr A => ⟨_, rfl, rfl, _, rfl, decT (intEq.mpr hr.1) ⟨_, rfl, _, _, rfl, rfl, _, rfl, decT hr.2 A⟩⟩)
    refine ⟨_, rfl, _, rfl, _, rfl, _, rfl, more, M, _, rfl, d0, x0, x1, m3, fun H3 v sm s3 hs hw => ⟨by show 3 ≤ sizeLine; decide, fun T nT => ?_⟩⟩
    refine q _ (.ref T) (.tup [.str "put", .int (cell / 9 % (M : Int)), dSm sm]) (p + 2) (l - 1) (But.trans b2 (But.trans (butOf s3) (butOf (sameNew nT)))) ((St2.same s3).same (sameNew nT)) (.tup (.of upd_same) (.cons (.str _) (.cons (.int _) (.cons (dinSame (sameNew nT) (dinSum hs)) .nil))))
      (put_row x0 x1 hw) ?_ (by omega) (by omega) (by omega)
    rw [cnt_put]
    omega
  have cc : ¬ cell % 9 < 3 ∧ (4 < cell % 9 → 1 ≤ deep) := by omega
  refine yesDec (fun c => absurd c cc.1) (fun _ => ?_)
  refine andE (fun B => ⟨_, rfl, rfl, _, rfl, yesDec (fun h => ⟨_, rfl, _, _, rfl, rfl, _, rfl, yesDec (fun h2 => absurd (.inr ⟨intEq.mp h, h2⟩) hput) (fun _ => B)⟩) (fun _ => B)⟩) ?_
  refine ⟨_, rfl, _, _, rfl, rfl, _, rfl, ?_⟩
  refine yesDec (fun c5 => ?_) (fun c5 => ?_)
  · refine ⟨_, rfl, _, rfl, more, M, rfl, d0, m1, m3, fun H3 v sm s3 hs hw => ⟨by show 2 ≤ sizeLine; decide, fun T nT => ?_⟩⟩
    refine q _ (.ref T) (.tup [.str "say", dSm sm]) (p + 2) (l - 1) (But.trans b2 (But.trans (butOf s3) (butOf (sameNew nT)))) ((St2.same s3).same (sameNew nT)) (.tup (.of upd_same) (.cons (.str _) (.cons (dinSame (sameNew nT) (dinSum hs)) .nil))) (say_row hw) ?_ (by omega) (by omega) (by omega)
    rw [cnt_say]
    omega
  have hdeep := cc.2 (by omega)
  obtain ⟨dp, rfl⟩ : ∃ dp, deep = dp + 1 := ⟨deep - 1, by omega⟩
  refine ⟨_, rfl, _, _, rfl, rfl, _, rfl, ?_⟩
  refine yesDec (fun c7 => ?_) (fun c7 => ?_)
  · -- an if
    refine ⟨_, rfl, _, rfl, _, _, rfl, rfl, _, rfl, _, _, rfl, rfl, (dv _).1, _, _, rfl, rfl, (show (0 : Int) < 3 by decide), ds, sc, tp, script, tops, p + 2, l - 1, _, _, rfl, by omega, by omega, St2, by omega, by omega, by omega, by omega, by omega, by omega,
      fun H3 v1 r1 p3 l3 b3 St3 hd1 hg1 hc1 l30' p30 pl3 => ?_⟩
    refine ⟨_, rfl, _, rfl, more, M, rfl, d0, m1, m3, fun H4 vw sw s4 hsw hww => ?_⟩
    have St4 := St3.same s4
    refine ⟨_, rfl, _, rfl, _, rfl, _, _, rfl, rfl, _, rfl, _, _, rfl, rfl, (dv _).2.1, _, _, rfl, rfl, (show (0 : Int) < 3 by decide), ds, sc, tp, script, tops, p3, l3, _, _, rfl, by omega, by omega, St4, by omega, by omega, by omega, by omega, by omega, by omega,
      fun H5 v2 r2 p5 l5 b5 St5 hd2 hg2 hc2 l50 p50 pl5 => ⟨by show 4 ≤ sizeLine; decide, fun T nT => ?_⟩⟩
    have ts := butTS b5 St4.d
    rw [← em] at hg1 hg2
    have e1 : dp + 1 - 1 = dp := by omega
    rw [e1] at hg1 hg2
    have pu1 := pures_of fun d hd => (hg1 d hd).2.1
    have pu2 := pures_of fun d hd => (hg2 d hd).2.1
    have hd1' := dinTS ts (by simpa [D.pure] using pu1) (dinSame s4 hd1)
    refine q _ (.ref T) (.tup [.str "if", dSm sw, .tup r1, .tup r2]) p5 l5 (But.trans b2 (But.trans b3 (But.trans (butOf s4) (But.trans b5 (butOf (sameNew nT)))))) (St5.same (sameNew nT))
      (.tup (.of upd_same) (.cons (.str _) (.cons (dinSame (sameNew nT) (dinSum (tsSum ts hsw))) (.cons (dinSame (sameNew nT) hd1') (.cons (dinSame (sameNew nT) hd2) .nil))))) (if_row hww (good_tup hg1) (good_tup hg2) pu1 pu2) ?_ (by omega) (by omega) (by omega)
    rw [cnt_if]
    omega
  -- a loop
  refine ⟨_, rfl, ds, _, rfl, St2.gL, _, _, rfl, rfl, _, rfl, ds, _, rfl, St2.pL (l - 1 - 1), ?_⟩
  have St3 := St2.setL (l - 1 - 1)
  have b3 : But ds H (upd H2 ds (.dK (stK sc tp (p + 2) (l - 1 - 1)))) := But.trans b2 butUpd
  generalize upd H2 ds (.dK (stK sc tp (p + 2) (l - 1 - 1))) = H3 at *
  clear St2 b2
  refine ⟨by show 0 ≤ sizeLine; decide, fun T0 nT0 => ?_⟩
  refine ⟨by show 5 ≤ sizeLine; decide, fun L nL => ?_⟩
  obtain ⟨z, ez, mz⟩ := atMem (xs := [0, 0, 1, 2, 3]) (i := cell / 81 % 5) (by omega) (by show cell / 81 % 5 < ((5 : Nat) : Int); omega)
  have hz : 0 ≤ z ∧ z ≤ 3 := by
    simp at mz
    omega
  have s4 : Same H3 (upd (upd H3 T0 (.tup [])) L (.lst ([0, 0, 1, 2, 3].map V.int))) := Same.trans (sameNew nT0) (sameNew nL)
  have ht0 : SqT K (upd (upd H3 T0 (.tup [])) L (.lst ([0, 0, 1, 2, 3].map V.int))) T0 [] := tupS (sameNew nL) (.of upd_same)
  refine ⟨_, rfl, _, _, rfl, rfl, (dv _).2.2.1, _, _, rfl, rfl, (show (0 : Int) < 5 by decide), _, _, _, _, rfl, rfl, .of upd_same, ez, z, rfl, by omega, by omega, ?_⟩
  have St4 := St3.same s4
  have b4 := But.trans b3 (butOf s4)
  have eL : upd (upd H3 T0 (.tup [])) L (.lst [.int 0, .int 0, .int 1, .int 2, .int 3]) = upd (upd H3 T0 (.tup [])) L (.lst ([0, 0, 1, 2, 3].map V.int)) := rfl
  rw [eL]
  generalize upd (upd H3 T0 (.tup [])) L (.lst ([0, 0, 1, 2, 3].map V.int)) = H4 at *
  clear s4 eL nL nT0 b3 St3
  refine for_range (lo := 0) (n := z.toNat) (fun i σ H' => ∃ (t : Addr) (vs : List V) (ws : List Sm) (y9 y10 : Option V), σ = [some (.ref ds), some (.int ((dp + 1 : Nat) : Int)), some (.int cell), some (.int more), some (.int (M : Int)), some (.int (cell % 9)), some (.int (cell / 9 % (M : Int))), none, some (.ref t), y9, y10, none, none] ∧
      Same H4 H' ∧ SqT K H' t vs ∧ DinA K H' vs (ws.map dSm) ∧ (∀ w ∈ ws, SumW M w) ∧ ws.length = i) ⟨T0, [], [], none, none, rfl, Same.refl _, ht0, .nil, fun w hw => by simp at hw, rfl⟩ (fun i σ H' hi w => ?_) (fun σ H5 w => ?_)
  · obtain ⟨t, vs, ws, y9, y10, rfl, sm, ht, hA, hws, hl⟩ := w
    have St5 := St4.same sm
    refine ⟨_, rfl, ds, _, rfl, St5.gS, _, rfl, ds, _, rfl, St5.gA, _, _, rfl, rfl, _, rfl, _, _, rfl, rfl, sc, script, _, rfl, St5.s, St5.s63, by omega, by omega, fun one o0 o1 => ?_⟩
    refine ⟨_, rfl, _, rfl, _, rfl, one, M, rfl, o0, m1, m3, fun H6 v sw s6 hsw hww => ⟨by show 1 ≤ sizeLine; decide, fun U nU => ?_⟩⟩
    have lA := hA.len
    refine catUse (tupS (Same.trans s6 (sameNew nU)) ht) (.of upd_same) (by simp at lA ⊢; omega) fun r H7 s7 hr7 => ?_
    refine ⟨r, vs ++ [v], ws ++ [sw], _, _, rfl, Same.trans sm (Same.trans s6 (Same.trans (sameNew nU) s7)), hr7, ?_, fun x hx => ?_, by simp [hl]⟩
    · rw [List.map_append]
      exact dinApp (dinASame (Same.trans s6 (Same.trans (sameNew nU) s7)) hA) (.cons (dinSame (Same.trans (sameNew nU) s7) (dinSum hsw)) .nil)
    · rcases List.mem_append.mp hx with h | h
      · exact hws x h
      · have : x = sw := by simpa using h
        subst this
        exact hww
  obtain ⟨t, vs, ws, y9, y10, rfl, sm, ht, hA, hws, hl⟩ := w
  have St5 := St4.same sm
  have b5 := But.trans b4 (butOf sm)
  clear sm b4 St4 ht0 ez mz
  -- the body: a put, or none
  refine ⟨_, rfl, _, rfl, _, rfl, M, _, 1, 1, rfl, x0, x1, m3, fun H6 v s6 hsb => ⟨by show 3 ≤ sizeLine; decide, fun U nU => ⟨by show 1 ≤ sizeLine; decide, fun W nW => ?_⟩⟩⟩
  have hsb' : SumIn K H6 v (unitOf M (cell / 9 % (M : Int)).toNat 1 1) := hsb
  have s7 : Same H5 (upd (upd H6 U (.tup [.str "put", .int (cell / 9 % (M : Int)), v])) W (.tup [.ref U])) := Same.trans s6 (Same.trans (sameNew nU) (sameNew nW))
  have hW : SqT K (upd (upd H6 U (.tup [.str "put", .int (cell / 9 % (M : Int)), v])) W (.tup [.ref U])) W [.ref U] := .of upd_same
  have hU : Din K (upd (upd H6 U (.tup [.str "put", .int (cell / 9 % (M : Int)), v])) W (.tup [.ref U])) (.ref U) (.tup [.str "put", .int (cell / 9 % (M : Int)), dSm (unitOf M (cell / 9 % (M : Int)).toNat 1 1)]) :=
    dinSame (sameNew nW) (.tup (.of upd_same) (.cons (.str _) (.cons (.int _) (.cons (dinSame (sameNew nU) (dinSum hsb')) .nil))))
  have St7 := St5.same s7
  have b7 := But.trans b5 (butOf s7)
  have ht7 := tupS s7 ht
  have hA7 := dinASame s7 hA
  generalize upd (upd H6 U (.tup [.str "put", .int (cell / 9 % (M : Int)), v])) W (.tup [.ref U]) = H7 at *
  clear s7 hsb' hsb s6 nU nW St5 b5 ht hA
  refine ⟨fun σ' H' => ∃ (bt : Addr) (bvs : List V) (brs : List D), σ' = [some (.ref ds), some (.int ((dp + 1 : Nat) : Int)), some (.int cell), some (.int more), some (.int (M : Int)), some (.int (cell % 9)), some (.int (cell / 9 % (M : Int))), none, some (.ref t), y9, y10, some (.ref bt), none] ∧
      Same H7 H' ∧ SqT K H' bt bvs ∧ DinA K H' bvs brs ∧ (∀ d ∈ brs, GRow M dp d) ∧ (brs.map (cntRow dp)).sum ≤ 1, ?_, ?_⟩
  · refine ⟨_, rfl, _, _, rfl, rfl, (dv _).2.2.2.1, _, _, rfl, rfl, (show (0 : Int) < 8 by decide), rfl, _, rfl, ?_⟩
    refine yesDec (fun c8 => ?_) (fun c8 => ?_)
    · exact ⟨by show 0 ≤ sizeLine; decide, fun Z nZ => ⟨Z, [], [], rfl, sameNew nZ, .of upd_same, .nil, fun d hd => by simp at hd, by simp⟩⟩
    · refine ⟨W, _, _, rfl, Same.refl _, hW, .cons hU .nil, fun d hd => ?_, ?_⟩
      · rw [List.mem_singleton.mp hd]
        exact put_row x0 x1 (unitW (by omega) (by omega))
      · simp [cnt_put]
  rintro σ' H8 ⟨bt, bvs, brs, rfl, s8, hbt, hbA, hbg, hbc⟩
  have St8 := St7.same s8
  refine ⟨_, rfl, _, rfl, _, rfl, _, _, rfl, rfl, _, rfl, _, _, rfl, rfl, (dv _).2.1, _, _, rfl, rfl, (show (0 : Int) < 3 by decide), ds, sc, tp, script, tops, p + 2, l - 1 - 1, _, _, rfl, by omega, by omega, St8, by omega, by omega, by omega, by omega, by omega, by omega,
    fun H9 v2 r2 p9 l9 b9 St9 hd2 hg2 hc2 l90 p90 pl9 => ?_⟩
  have ts := butTS b9 St8.d
  rw [← em] at hg2
  have e1 : dp + 1 - 1 = dp := by omega
  rw [e1] at hg2
  have puw : D.pures (ws.map dSm) = true := pures_of fun d hd => by
    obtain ⟨x, _, rfl⟩ := List.mem_map.mp hd
    exact pureSum x
  have pub := pures_of fun d hd => (hbg d hd).2.1
  have pu2 := pures_of fun d hd => (hg2 d hd).2.1
  have ht9 := tsTup ts (tupS s8 ht7)
  have hA9 := dinATS ts puw (dinASame s8 hA7)
  have hbt9 := tsTup ts hbt
  have hbA9 := dinATS ts pub hbA
  have b10 := But.trans b7 (But.trans (butOf s8) b9)
  cases hd2 with
  | @tup a2 xs2 _ h2 hA2 =>
    have lb := hbA.len
    have l2 := hA2.len
    have hb1 : brs.length ≤ 1 := by
      have : brs.length ≤ (brs.map (cntRow dp)).sum := by
        clear hbt hbA hbg hbc hbt9 hbA9 pub lb
        induction brs with
        | nil => simp
        | cons x r ih =>
          simp only [List.length_cons, List.map_cons, List.sum_cons, cntRow] at ih ⊢
          omega
      omega
    have hr2 : r2.length ≤ 40 := by
      rw [cnt_tup] at hc2
      have : r2.length ≤ (r2.map (cntRow dp)).sum := by
        clear hc2 hg2 pu2 l2 hA2
        induction r2 with
        | nil => simp
        | cons x r ih =>
          simp only [List.length_cons, List.map_cons, List.sum_cons, cntRow] at ih ⊢
          omega
      omega
    refine catUse hbt9 h2 (by omega) fun r H10 s10 hr10 => ?_
    have hbody := dinApp (dinASame s10 hbA9) (dinASame s10 hA2)
    have hgb : ∀ d ∈ brs ++ r2, GRow M dp d := fun d hd => (List.mem_append.mp hd).elim (hbg d) (hg2 d)
    have St10 := St9.same s10
    have b11 := But.trans b10 (butOf s10)
    -- the word
    obtain ⟨top, etop, mtop⟩ := atMem (xs := tops) (i := cell / 9 % (M : Int)) x0 (by omega)
    have wtop := St10.w.2.2 top mtop
    refine ⟨_, rfl, _, rfl, _, rfl, ds, _, rfl, St10.gT, _, rfl, _, _, _, _, rfl, rfl, St10.t, etop, _, _, rfl, rfl, M, _, 1, 1 - top, rfl, x0, x1, m3, fun H11 vw s11 hsw => ?_⟩
    have hww : SumW M (unitOf M (cell / 9 % (M : Int)).toNat 1 (1 - top)) := unitW (by omega) (by omega)
    refine ⟨fun σ' H' => ∃ (vw : V) (sw : Sm), σ' = [some (.ref ds), some (.int ((dp + 1 : Nat) : Int)), some (.int cell), some (.int more), some (.int (M : Int)), some (.int (cell % 9)), some (.int (cell / 9 % (M : Int))), none, some (.ref t), y9, y10, some (.ref r), some vw] ∧
      Same H10 H' ∧ SumIn K H' vw sw ∧ SumW M sw, ?_, ?_⟩
    · refine ⟨_, rfl, _, _, rfl, rfl, (dv _).2.2.2.2, _, _, rfl, rfl, (show (0 : Int) < 6 by decide), rfl, _, rfl, ?_⟩
      refine yesDec (fun c9 => ?_) (fun c9 => ?_)
      · exact ⟨_, rfl, _, rfl, more, M, rfl, d0, m1, m3, fun H12 v3 s3 s12 hs3 hw3 => ⟨v3, s3, rfl, Same.trans s11 s12, hs3, hw3⟩⟩
      · exact ⟨vw, _, rfl, s11, hsw, hww⟩
    rintro σ' H12 ⟨vw2, sw2, rfl, s12, hs12, hw12⟩
    refine ⟨_, rfl, _, rfl, _, rfl, by show 4 ≤ sizeLine; decide, fun T nT => ?_⟩
    have s13 := Same.trans s12 (sameNew (o := .tup [.str "loop", vw2, .ref t, .ref r]) nT)
    refine q _ (.ref T) (.tup [.str "loop", dSm sw2, .tup (ws.map dSm), .tup (brs ++ r2)]) p9 l9 (But.trans b11 (butOf s13)) (St10.same s13)
      (.tup (.of upd_same) (.cons (.str _) (.cons (dinSame (sameNew nT) (dinSum hs12)) (.cons (.tup (tupS (Same.trans s10 s13) ht9) (dinASame (Same.trans s10 s13) hA9)) (.cons (.tup (tupS s13 hr10) (dinASame s13 hbody)) .nil)))))
      (loop_row hw12 hws (by omega) (good_tup hgb) (pures_of fun d hd => (hgb d hd).2.1)) ?_ (by omega) (by omega) (by omega)
    rw [cnt_loop, cnt_tup, List.map_append, List.sum_append]
    rw [cnt_tup] at hc2
    omega

end

end LW

namespace LW
open PySem PySem.Spec PyProof.Rows L2
local macro_rules | `(tactic| walk_at "go1") => `(tactic| first
  | refine ⟨_, rfl, ?_⟩
  | refine ⟨_, _, rfl, rfl, ?_⟩
  | refine ⟨show (0 : Int) < _ from by omega, ?_⟩
  | refine ⟨show CMul _ _ from by first | exact .inl ⟨by omega, by omega⟩ | exact .inr ⟨by omega, by omega⟩, ?_⟩
  | refine ⟨show CDiv _ _ from ⟨by omega, by omega⟩, ?_⟩)
local macro_rules | `(tactic| walk_at "go") => `(tactic| repeat walk_at "go1")

section
variable {P : Program} {w : World} {K : PySem.W.Frag} {mg : Str → Option Value} {base : Heap}

theorem merge_st {sc tp : Addr} {p l : Int} : mergeK [] (stK sc tp p l) = stK sc tp p l := by
  have h := stNe
  have k1 := keyNe h.1
  have k2 := keyNe h.2.1
  have k3 := keyNe h.2.2.1
  have k4 := keyNe h.2.2.2.1
  have k5 := keyNe h.2.2.2.2.1
  have k6 := keyNe h.2.2.2.2.2
  simp only [mergeK, stK, List.foldl_cons, List.foldl_nil, putK, List.any_cons, List.any_nil, List.nil_append, List.cons_append, decide_eq_false k1, decide_eq_false k2, decide_eq_false k3, decide_eq_false k4, decide_eq_false k5, decide_eq_false k6, Bool.or_false, Bool.or_self, Bool.false_eq_true, if_false]
def spProgG (K : PySem.W.Frag) : Sp := fun vs H Q _ => ∃ (a : Addr) (ns : List Int) (most : Int), vs = [.ref a, .int most] ∧ SqL K H a (ns.map V.int) ∧ ns.length ≤ 63 ∧ 1 ≤ most ∧ most ≤ 28 ∧
  ∀ (r tp : Addr) (H' : Hp) (v : V) (tops : List Int) (rows : List D), Same H H' → SqT K H' r [.ref tp, v] → H tp = none → H' tp = some (.lst (tops.map V.int)) → TopsW tops → Din K H' v (.tup rows) → (∀ d ∈ rows, GRow tops.length 3 d) → ((cnt 4 (.tup rows) : Nat) : Int) ≤ most + 1 → Q (.ref r) H'
abbrev s__law_program : Stmt := topS 34
theorem sc__law_program : FnScope ["_law_script", "_law_most", "_law_tops_here", "_law_state"] ["_law_script", "_law_most"] (defScope s__law_program) := ⟨rfl, rfl, rfl, by decide +kernel, rfl, by decide +kernel, by decide +kernel⟩

theorem ok__law_program {f : Addr} {fd : FuncData} {k : Nat} (F : Fun K "_law_program" "_law_program" s__law_program f fd) (B : Bl mg) (c__law_at : C8.Cal P w K mg base k "_law_at" (spAt K) []) (c__law_tops : C8.Cal P w K mg base k "_law_tops" (spTopsG K) []) (c__law_rows : C8.Cal P w K mg base k "_law_rows" (spGRows K 4) []) : FnOk P w K mg base CX0 (k + 1) f fd ["_law_script", "_law_most"] (spProgG K) := by
  refine F.ok sc__law_program (fun vs H Q E h => ?_) (fun cdv A outer s H vs Q E hr h => ?_)
  · obtain ⟨a, ns, most, rfl, _⟩ := h
    rfl
  obtain ⟨a, ns, most, rfl, hS, h63, hm0, hm1, q⟩ := h
  refine ⟨_, (pss_cons (ps_set (i := 2) sc__law_program.nd rfl (.inl rfl) (C8.pe_c c__law_tops hr (Nat.le_refl _) (by rfl) (pa_cons (pv 0) pa_nil)))
    (pss_cons (ps_set (i := 3) sc__law_program.nd rfl (.inl rfl) (pe_disp (pps_cons pe_str (pv 0) (pps_cons pe_str pe_int (pps_cons pe_str (pv 1) (pps_cons pe_str (pv 2) pps_nil)))) (by rfl) (by rfl) (fun z => by cases z) (by decide)))
    (pss_one (ps_ret (pe_tup (pa_cons (pv 2) (pa_cons (C8.pe_c c__law_rows hr (Nat.le_refl _) (by rfl) (pa_cons (pv 3) (pa_cons pe_int (pa_cons (pe_op op_mod (C8.pe_c c__law_at hr (Nat.le_refl _) (by rfl) (pa_cons (pv 0) (pa_cons pe_int pa_nil))) (pe_op op_add (pv 1) pe_int)) pa_nil)))) pa_nil))))))), ?_⟩
  refine ⟨_, rfl, a, ns, rfl, hS, h63, fun tp H1 tops n1 s1 ht tw => ?_⟩
  refine fun ds nd => ⟨_, rfl, _, rfl, _, rfl, upd_same, stK a tp 4 most, rfl, by show 4 ≤ 15; decide, ?_⟩
  rw [merge_st]
  have nd0 : H ds = none := Same.free s1 nd
  have e2 : upd (upd H1 ds (.dK [])) ds (.dK (stK a tp 4 most)) = upd H1 ds (.dK (stK a tp 4 most)) := by
    funext x
    by_cases hx : x = ds
    · subst hx
      rw [upd_same, upd_same]
    · rw [upd_ne hx, upd_ne hx, upd_ne hx]
  rw [e2]
  have s2 : Same H1 (upd H1 ds (.dK (stK a tp 4 most))) := sameNew nd
  have St : Stt K (upd H1 ds (.dK (stK a tp 4 most))) ds a tp ns tops 4 most := ⟨upd_same, Same.seq s2 (Same.seq s1 hS), h63, .of (s2 _ _ ht), tw⟩
  generalize hG : upd H1 ds (.dK (stK a tp 4 most)) = H2 at *
  have ht2 : H2 tp = some (.lst (tops.map V.int)) := s2 _ _ ht
  refine ⟨_, rfl, _, rfl, _, rfl, a, ns, 3, rfl, St.s, h63, by omega, by omega, fun z z0 z1 => ?_⟩
  refine ⟨_, rfl, _, _, rfl, rfl, _, _, rfl, rfl, (show (0 : Int) < most + 1 by omega), ?_⟩
  have e0 : 0 ≤ z % (most + 1) := Int.emod_nonneg _ (by omega)
  have e1 : z % (most + 1) < most + 1 := Int.emod_lt_of_pos _ (by omega)
  refine ⟨ds, a, tp, ns, tops, 4, most, 3, _, rfl, by omega, by omega, St, by omega, by omega, by omega, by omega, e0, by omega, fun H3 v rows p' l' b3 St3 hd hg hc l0 p0 pl => ?_⟩
  have s3 : Same H H3 := fun x o hx => by
    have h1 : x ≠ ds := fun z => by rw [z, nd0] at hx; cases hx
    exact b3 x o h1 (s2 _ _ (s1 _ _ hx))
  have hne : tp ≠ ds := fun z => by rw [z, nd] at ht; cases ht
  refine ⟨by show 2 ≤ sizeLine; decide, fun T nT => ?_⟩
  exact q T tp _ v tops rows (Same.trans s3 (sameNew nT)) (.of upd_same) n1 (sameNew nT _ _ (b3 _ _ hne ht2)) tw (dinSame (sameNew nT) hd) hg (by omega)

end

end LW

namespace LW
open PySem PySem.Spec PyProof.Rows L2
local macro_rules | `(tactic| walk_at "go1") => `(tactic| first
  | refine ⟨_, rfl, ?_⟩
  | refine ⟨_, _, rfl, rfl, ?_⟩
  | refine ⟨show (0 : Int) < _ from by omega, ?_⟩
  | refine ⟨show CMul _ _ from by first | exact .inl ⟨by omega, by omega⟩ | exact .inr ⟨by omega, by omega⟩, ?_⟩
  | refine ⟨show CDiv _ _ from ⟨by omega, by omega⟩, ?_⟩)
local macro_rules | `(tactic| walk_at "go") => `(tactic| repeat walk_at "go1")

section
variable {P : Program} {w : World} {K : PySem.W.Frag} {mg : Str → Option Value} {base : Heap}

def spPl (K : PySem.W.Frag) (i : Nat) : Sp := fun vs H Q _ => ∃ (many : Nat) (a b : Addr) (xs : List V) (rows : List D) (ahead : List Nat), vs = [.ref a, .ref b] ∧ SqT K H a xs ∧ DinA K H xs rows ∧ SqT K H b (nats ahead) ∧ (∀ d ∈ rows, ∃ r, i = r + 1 ∧ GRow many r d) ∧ 1 ≤ i ∧ ahead.length ≤ 100 - 2 * i ∧ 2 * i ≤ 100 ∧ cnt i (.tup rows) ≤ 1000 ∧
  ∀ (p : Addr) (H' : Hp) (us : List V), H p = none → Same H H' → H' p = some (.lst us) → PlL K H' us (plD i rows ahead) → Q (.ref p) H'
theorem strDec {a b : Str} : decide (V.str a = V.str b) = decide (a = b) := by
  by_cases h : a = b
  · simp [h]
  · rw [decide_eq_false h, decide_eq_false fun e => h (V.str.inj e)]
abbrev s__law_places : Stmt := topS 35
theorem sc__law_places : FnScope ["_law_rows_here", "_law_ahead", "_law_found", "_law_k", "_law_place"] ["_law_rows_here", "_law_ahead"] (defScope s__law_places) := ⟨rfl, rfl, rfl, by decide +kernel, rfl, by decide +kernel, by decide +kernel⟩

theorem ok__law_places {f : Addr} {fd : FuncData} {k i : Nat} (F : Fun K "_law_places" "_law_places" s__law_places f fd) (B : Bl mg) (c__law_places : C8.Cal P w K mg base k "_law_places" (spPl K i) []) : FnOk P w K mg base CX0 (k + 1) f fd ["_law_rows_here", "_law_ahead"] (spPl K (i + 1)) := by
  refine F.ok sc__law_places (fun vs H Q E h => ?_) (fun cdv A outer s H vs Q E hr h => ?_)
  · obtain ⟨many, a, b, xs, rows, ahead, rfl, _⟩ := h
    rfl
  obtain ⟨many, a, b, xs, rows, ahead, rfl, hT, hA, hB, hg, hi1, hl, h2i, hc, q⟩ := h
  refine ⟨_, (pss_cons (ps_set (i := 2) sc__law_places.nd rfl (.inl rfl) (pe_lst pa_nil))
    (pss_cons (ps_for PassesOwn.never rfl (pi_range1 (by rfl) B.range (pa_cons (pe_callB (kLen (K := K) rfl) (by rfl) B.len PySem.boot_len (pa_cons (pv 0) pa_nil)) pa_nil)) (pg_name (i := 3) sc__law_places.nd rfl (.inl rfl))
      (pss_cons (ps_set (i := 4) sc__law_places.nd rfl (.inl rfl) (pe_op (kCatT (K := K) rfl) (pv 1) (pe_tup (pa_cons (pv 3) pa_nil))))
      (pss_cons (ps_expr (pe_bm PySem.F.plainAttrs_list PySem.F.slot_list_append PySem.F.type_list_append mt_append (pv 2) (pa_cons (pe_tup (pa_cons (pv 4) (pa_cons (pe_ix (kIxT (K := K) rfl) (pv 0) (pv 3) (fun _ _ => rfl)) pa_nil))) pa_nil)))
      (pss_cons (ps_if (pt_cmpR op_eq (pe_ix (kIxT (K := K) rfl) (pe_ix (kIxT (K := K) rfl) (pv 0) (pv 3) (fun _ _ => rfl)) pe_int (fun _ _ => rfl)) pe_str (nomark _))
        (pss_one (ps_set (i := 2) sc__law_places.nd rfl (.inl rfl) (pe_op op_cat (pe_op op_cat (pv 2) (C8.pe_c c__law_places hr (Nat.le_refl _) (by rfl) (pa_cons (pe_ix (kIxT (K := K) rfl) (pe_ix (kIxT (K := K) rfl) (pv 0) (pv 3) (fun _ _ => rfl)) pe_int (fun _ _ => rfl)) (pa_cons (pe_op (kCatT (K := K) rfl) (pv 4) (pe_tup (pa_cons pe_int pa_nil))) pa_nil)))) (C8.pe_c c__law_places hr (Nat.le_refl _) (by rfl) (pa_cons (pe_ix (kIxT (K := K) rfl) (pe_ix (kIxT (K := K) rfl) (pv 0) (pv 3) (fun _ _ => rfl)) pe_int (fun _ _ => rfl)) (pa_cons (pe_op (kCatT (K := K) rfl) (pv 4) (pe_tup (pa_cons pe_int pa_nil))) pa_nil))))))
        pss_nil)
      (pss_one (ps_if (pt_cmpR op_eq (pe_ix (kIxT (K := K) rfl) (pe_ix (kIxT (K := K) rfl) (pv 0) (pv 3) (fun _ _ => rfl)) pe_int (fun _ _ => rfl)) pe_str (nomark _))
        (pss_one (ps_set (i := 2) sc__law_places.nd rfl (.inl rfl) (pe_op op_cat (pv 2) (C8.pe_c c__law_places hr (Nat.le_refl _) (by rfl) (pa_cons (pe_ix (kIxT (K := K) rfl) (pe_ix (kIxT (K := K) rfl) (pv 0) (pv 3) (fun _ _ => rfl)) pe_int (fun _ _ => rfl)) (pa_cons (pe_op (kCatT (K := K) rfl) (pv 4) (pe_tup (pa_cons pe_int pa_nil))) pa_nil))))))
        pss_nil))))))
    (pss_one (ps_ret (pv 2))))), ?_⟩
  have szl : (100000 : Nat) ≤ sizeLine := by decide
  have hgr : ∀ d ∈ rows, GRow many i d := fun d hd => by
    obtain ⟨r, e, g⟩ := hg d hd
    have : r = i := by omega
    exact this ▸ g
  have lA := hA.len
  have lrows : rows.length ≤ 1000 := by
    have : rows.length ≤ cnt (i + 1) (.tup rows) := by
      rw [cnt_tup]
      clear hA hg hgr hc q lA
      induction rows with
      | nil => simp
      | cons x r ih =>
        simp only [List.length_cons, List.map_cons, List.sum_cons, cntRow] at ih ⊢
        omega
    omega
  refine ⟨by show 0 ≤ sizeLine; decide, fun L0 nL0 => ?_⟩
  refine ⟨_, rfl, _, _, rfl, .inr (tupS (sameNew nL0) hT), _, rfl, by omega, by omega, ?_⟩
  refine for_range (lo := 0) (n := xs.length) (fun j σ H' => ∃ (L : Addr) (us : List V) (y3 y4 : Option V), σ = [some (.ref a), some (.ref b), some (.ref L), y3, y4] ∧ H L = none ∧ Same H H' ∧ H' L = some (.lst us) ∧ PlL K H' us (plD (i + 1) (rows.take j) ahead))
    ⟨L0, [], none, none, rfl, nL0, sameNew nL0, upd_same, by rw [List.take_zero]; exact .nil⟩ (fun j σ H' hj w => ?_) (fun σ H' w => ?_)
  · obtain ⟨L, us, y3, y4, rfl, nL, sm, hL, hP⟩ := w
    obtain ⟨rv, erv⟩ : ∃ rv, xs[j]? = some rv := ⟨_, List.getElem?_eq_getElem hj⟩
    obtain ⟨d, ed, hd⟩ := dinAt hA erv
    have md : d ∈ rows := List.mem_of_getElem? ed
    have gd := hgr d md
    have e0 : (0 : Int) + (j : Int) = ((j : Nat) : Int) := by omega
    have atr : atI xs (0 + (j : Int)) = some rv := by
      rw [e0]
      exact atI_nat erv
    refine ⟨_, rfl, _, rfl, by show 1 ≤ sizeLine; decide, fun U nU => ?_⟩
    refine catUse (xs := nats ahead) (ys := [.int (0 + (j : Int))]) (tupS (Same.trans sm (sameNew nU)) hB) (.of upd_same) (by simp [nats]; omega) fun pl H2 s2 hpl => ?_
    have epl : nats ahead ++ [V.int (0 + (j : Int))] = nats (ahead ++ [j]) := by simp [nats]
    rw [epl] at hpl
    have sm2 : Same H H2 := Same.trans sm (Same.trans (sameNew nU) s2)
    have hL2 : H2 L = some (.lst us) := (Same.trans (sameNew nU) s2) _ _ hL
    have hpu : ∀ p ∈ plD (i + 1) (rows.take j) ahead, p.2.pure = true := fun p hp => (plPure (many := many) (i + 1) _ _ (fun d hd => ⟨i, hgr d (List.mem_of_mem_take hd)⟩) p hp).1
    have hP2 := plTS (tsOf (Same.trans (sameNew nU) s2)) hpu hP
    refine ⟨_, rfl, .inl ⟨rfl, _, .of hL2⟩, _, rfl, _, rfl, _, rfl, _, _, _, _, rfl, rfl, tupS sm2 hT, atr, by show 2 ≤ sizeLine; decide, fun T nT => ?_⟩
    have hL3 : upd H2 T (.tup [.ref pl, rv]) L = some (.lst us) := sameNew nT _ _ hL2
    have ull : us.length ≤ 1000 := by
      have h1 := hP.len
      rw [plLen] at h1
      have h2 := cntTake (r := i) (rows := rows) (j := j)
      omega
    refine ⟨L, us, _, rfl, rfl, hL3, by omega, ?_⟩
    have sm3 : Same H (upd (upd H2 T (.tup [.ref pl, rv])) L (.lst (us ++ [.ref T]))) := sameMut (Same.trans sm2 (sameNew nT)) nL
    have ts3 : TS H2 (upd (upd H2 T (.tup [.ref pl, rv])) L (.lst (us ++ [.ref T]))) := TS.trans (tsOf (sameNew nT)) (tsLst hL3)
    have hT3 : SqT K (upd (upd H2 T (.tup [.ref pl, rv])) L (.lst (us ++ [.ref T]))) T [.ref pl, rv] := tsTup (tsLst hL3) (.of upd_same)
    have hL4 : upd (upd H2 T (.tup [.ref pl, rv])) L (.lst (us ++ [.ref T])) L = some (.lst (us ++ [.ref T])) := upd_same
    have hP4 := plTS ts3 hpu hP2
    have hpl4 := tsTup ts3 hpl
    generalize upd (upd H2 T (.tup [.ref pl, rv])) L (.lst (us ++ [.ref T])) = H4 at *
    have hd4 := dinSame sm3 hd
    have hP5 : PlL K H4 (us ++ [.ref T]) (plD (i + 1) (rows.take j) ahead ++ [(ahead ++ [j], d)]) := hP4.app (.cons ⟨T, pl, rv, rfl, hT3, hpl4, hd4⟩ .nil)
    have hpu5 : ∀ p ∈ plD (i + 1) (rows.take j) ahead ++ [(ahead ++ [j], d)], p.2.pure = true := fun p hp => by
      rcases List.mem_append.mp hp with h | h
      · exact hpu p h
      · rw [List.mem_singleton.mp h]
        exact gd.2.1
    have hcm := cntMem (r := i) md
    clear hP4 hP2 hP hL3 hL2 hpl hT3 nT nU s2
    obtain ⟨k1, k2, k3, k4, k5, k6, _⟩ := kinds
    have hT4 := tupS sm3 hT
    rcases gKinds gd with ⟨b', s', rfl⟩ | ⟨w', rfl⟩ | ⟨r2, w', a', b', ei, rfl, ga, gb⟩ | ⟨r2, w', ws', b', ei, rfl, gb⟩
    · cases hd4 with
      | tup hR hRA =>
        cases hRA with
        | cons h0 hA1 =>
          cases h0
          refine ⟨_, rfl, _, rfl, _, _, _, _, rfl, rfl, hT4, atr, _, _, _, _, rfl, rfl, hR, atI_nat (j := 0) rfl, rfl, _, rfl, ?_⟩
          rw [decS k1]
          refine iteF ?_
          refine ⟨_, rfl, _, rfl, _, _, _, _, rfl, rfl, hT4, atr, _, _, _, _, rfl, rfl, hR, atI_nat (j := 0) rfl, rfl, _, rfl, ?_⟩
          rw [decS k2]
          refine iteF ⟨L, _, _, _, rfl, nL, sm3, hL4, ?_⟩
          rw [plTake ed, plR_put]
          exact hP5
    · cases hd4 with
      | tup hR hRA =>
        cases hRA with
        | cons h0 hA1 =>
          cases h0
          refine ⟨_, rfl, _, rfl, _, _, _, _, rfl, rfl, hT4, atr, _, _, _, _, rfl, rfl, hR, atI_nat (j := 0) rfl, rfl, _, rfl, ?_⟩
          rw [decS k3]
          refine iteF ?_
          refine ⟨_, rfl, _, rfl, _, _, _, _, rfl, rfl, hT4, atr, _, _, _, _, rfl, rfl, hR, atI_nat (j := 0) rfl, rfl, _, rfl, ?_⟩
          rw [decS k4]
          refine iteF ⟨L, _, _, _, rfl, nL, sm3, hL4, ?_⟩
          rw [plTake ed, plR_say]
          exact hP5
    · rw [cnt_if] at hcm
      cases hd4 with
      | tup hR hRA =>
        cases hRA with
        | cons h0 hA1 =>
          cases h0
          cases hA1 with
          | cons hw hA2 =>
            cases hA2 with
            | cons ha hA3 =>
              cases hA3 with
              | cons hb hA4 =>
                cases hA4
                cases ha with
                | tup haT haA =>
                  cases hb with
                  | tup hbT hbA =>
                    refine ⟨_, rfl, _, rfl, _, _, _, _, rfl, rfl, hT4, atr, _, _, _, _, rfl, rfl, hR, atI_nat (j := 0) rfl, rfl, _, rfl, ?_⟩
                    rw [decide_eq_true rfl]
                    refine iteT ?_
                    refine ⟨_, rfl, _, rfl, _, rfl, _, _, _, _, rfl, rfl, hT4, atr, _, _, _, _, rfl, rfl, hR, atI_nat (j := 2) rfl, _, rfl, by show 1 ≤ sizeLine; decide, fun U nU => ?_⟩
                    refine catUse (tupS (sameNew nU) hpl4) (.of upd_same) (by simp [nats]; omega) fun p0 H5 s5 hp0 => ?_
                    have e5 : nats (ahead ++ [j]) ++ [V.int 0] = nats (ahead ++ [j] ++ [0]) := by simp [nats]
                    rw [e5] at hp0
                    have s45 := Same.trans (sameNew (o := .tup [.int 0]) nU) s5
                    refine ⟨many, _, p0, _, a', ahead ++ [j] ++ [0], rfl, tupS s45 haT, dinASame s45 haA, hp0, fun x hx => ⟨r2, ei, ga x hx⟩, by omega, by simp; omega, by omega, by omega, fun c1 H6 us1 n1 s6 hc1 hP6 => ?_⟩
                    have s46 := Same.trans s45 s6
                    have lu1 : us1.length ≤ 1000 := by
                      have h1 := hP6.len
                      rw [plLen] at h1
                      omega
                    refine ⟨L, c1, _, us1, rfl, rfl, s46 _ _ hL4, hc1, by simp; omega, fun Y nY => ?_⟩
                    have s47 := Same.trans s46 (sameNew (o := .lst (us ++ [.ref T] ++ us1)) nY)
                    refine ⟨_, rfl, _, rfl, _, _, _, _, rfl, rfl, tupS s47 hT4, atr, _, _, _, _, rfl, rfl, tupS s47 hR, atI_nat (j := 3) rfl, _, rfl, by show 1 ≤ sizeLine; decide, fun U2 nU2 => ?_⟩
                    refine catUse (tupS (Same.trans s47 (sameNew nU2)) hpl4) (.of upd_same) (by simp [nats]; omega) fun p1 H8 s8 hp1 => ?_
                    have e8 : nats (ahead ++ [j]) ++ [V.int 1] = nats (ahead ++ [j] ++ [1]) := by simp [nats]
                    rw [e8] at hp1
                    have s78 := Same.trans (sameNew (o := .tup [.int 1]) nU2) s8
                    have s48 := Same.trans s47 s78
                    refine ⟨many, _, p1, _, b', ahead ++ [j] ++ [1], rfl, tupS s48 hbT, dinASame s48 hbA, hp1, fun x hx => ⟨r2, ei, gb x hx⟩, by omega, by simp; omega, by omega, by omega, fun c2 H9 us2 n2 s9 hc2 hP9 => ?_⟩
                    have lu2 : us2.length ≤ 1000 := by
                      have h1 := hP9.len
                      rw [plLen] at h1
                      omega
                    have s79 := Same.trans s78 s9
                    have s49 := Same.trans s47 s79
                    refine ⟨Y, c2, _, us2, rfl, rfl, s79 _ _ upd_same, hc2, by simp; omega, fun Z nZ => ?_⟩
                    have s4Z := Same.trans s49 (sameNew (o := .lst (us ++ [.ref T] ++ us1 ++ us2)) nZ)
                    have s6Z := Same.trans (sameNew (o := .lst (us ++ [.ref T] ++ us1)) nY) (Same.trans s79 (sameNew (o := .lst (us ++ [.ref T] ++ us1 ++ us2)) nZ))
                    refine ⟨_, rfl, _, rfl, _, _, _, _, rfl, rfl, tupS s4Z hT4, atr, _, _, _, _, rfl, rfl, tupS s4Z hR, atI_nat (j := 0) rfl, rfl, _, rfl, ?_⟩
                    rw [decS k6]
                    refine iteF ⟨Z, _, _, _, rfl, Same.free sm3 (Same.free s49 nZ), Same.trans sm3 s4Z, upd_same, ?_⟩
                    rw [plTake ed, plR_if]
                    have q1 := plTS (tsOf s4Z) hpu5 hP5
                    have q2 := plTS (tsOf s6Z) (fun p hp => (plPure (many := many) i a' _ (fun x hx => ⟨r2, ga x hx⟩) p hp).1) hP6
                    have q3 := plTS (tsOf (sameNew (o := .lst (us ++ [.ref T] ++ us1 ++ us2)) nZ)) (fun p hp => (plPure (many := many) i b' _ (fun x hx => ⟨r2, gb x hx⟩) p hp).1) hP9
                    have q4 := (q1.app q2).app q3
                    unfold PlL
                    simpa [List.append_assoc] using q4
    · rw [cnt_loop] at hcm
      cases hd4 with
      | tup hR hRA =>
        cases hRA with
        | cons h0 hA1 =>
          cases h0
          cases hA1 with
          | cons hw hA2 =>
            cases hA2 with
            | cons hws hA3 =>
              cases hA3 with
              | cons hb hA4 =>
                cases hA4
                cases hb with
                | tup hbT hbA =>
                  refine ⟨_, rfl, _, rfl, _, _, _, _, rfl, rfl, hT4, atr, _, _, _, _, rfl, rfl, hR, atI_nat (j := 0) rfl, rfl, _, rfl, ?_⟩
                  rw [decS k5]
                  refine iteF ?_
                  refine ⟨_, rfl, _, rfl, _, _, _, _, rfl, rfl, hT4, atr, _, _, _, _, rfl, rfl, hR, atI_nat (j := 0) rfl, rfl, _, rfl, ?_⟩
                  rw [decide_eq_true rfl]
                  refine iteT ?_
                  refine ⟨_, rfl, _, rfl, _, rfl, _, _, _, _, rfl, rfl, hT4, atr, _, _, _, _, rfl, rfl, hR, atI_nat (j := 3) rfl, _, rfl, by show 1 ≤ sizeLine; decide, fun U nU => ?_⟩
                  refine catUse (tupS (sameNew nU) hpl4) (.of upd_same) (by simp [nats]; omega) fun p0 H5 s5 hp0 => ?_
                  have e5 : nats (ahead ++ [j]) ++ [V.int 0] = nats (ahead ++ [j] ++ [0]) := by simp [nats]
                  rw [e5] at hp0
                  have s45 := Same.trans (sameNew (o := .tup [.int 0]) nU) s5
                  refine ⟨many, _, p0, _, b', ahead ++ [j] ++ [0], rfl, tupS s45 hbT, dinASame s45 hbA, hp0, fun x hx => ⟨r2, ei, gb x hx⟩, by omega, by simp; omega, by omega, by omega, fun c1 H6 us1 n1 s6 hc1 hP6 => ?_⟩
                  have s46 := Same.trans s45 s6
                  have lu1 : us1.length ≤ 1000 := by
                    have h1 := hP6.len
                    rw [plLen] at h1
                    omega
                  refine ⟨L, c1, _, us1, rfl, rfl, s46 _ _ hL4, hc1, by simp; omega, fun Y nY => ?_⟩
                  have s47 := Same.trans s46 (sameNew (o := .lst (us ++ [.ref T] ++ us1)) nY)
                  refine ⟨Y, _, _, _, rfl, Same.free sm3 (Same.free s46 nY), Same.trans sm3 s47, upd_same, ?_⟩
                  rw [plTake ed, plR_loop]
                  have q1 := plTS (tsOf s47) hpu5 hP5
                  have q2 := plTS (tsOf (sameNew (o := .lst (us ++ [.ref T] ++ us1)) nY)) (fun p hp => (plPure (many := many) i b' _ (fun x hx => ⟨r2, gb x hx⟩) p hp).1) hP6
                  have q4 := q1.app q2
                  unfold PlL
                  simpa [List.append_assoc] using q4
  · obtain ⟨L, us, y3, y4, rfl, nL, sm, hL, hP⟩ := w
    rw [lA, List.take_length] at hP
    exact ⟨_, rfl, q L H' us nL sm hL hP⟩

end

end LW

namespace LW
open PySem PySem.Spec PyProof.Rows L2
local macro_rules | `(tactic| walk_at "go1") => `(tactic| first
  | refine ⟨_, rfl, ?_⟩
  | refine ⟨_, _, rfl, rfl, ?_⟩
  | refine ⟨show (0 : Int) < _ from by omega, ?_⟩
  | refine ⟨show CMul _ _ from by first | exact .inl ⟨by omega, by omega⟩ | exact .inr ⟨by omega, by omega⟩, ?_⟩
  | refine ⟨show CDiv _ _ from ⟨by omega, by omega⟩, ?_⟩)
local macro_rules | `(tactic| walk_at "go") => `(tactic| repeat walk_at "go1")

section
variable {P : Program} {w : World} {K : PySem.W.Frag} {mg : Str → Option Value} {base : Heap}

def spChg (K : PySem.W.Frag) (i : Nat) : Sp := fun vs H Q _ => ∃ (many : Nat) (a b : Addr) (nv : V) (xs : List V) (rows : List D) (place : List Nat) (d bd : D), vs = [.ref a, .ref b, nv] ∧ SqT K H a xs ∧ DinA K H xs rows ∧ SqT K H b (nats place) ∧ Din K H nv bd ∧ Bad many bd ∧ (∀ d ∈ rows, ∃ r, i = r + 1 ∧ GRow many r d) ∧ 1 ≤ i ∧ lookR rows place = some d ∧ rows.length ≤ 1000 ∧ cnt i (.tup rows) ≤ 1000 ∧
  ∀ (p : Addr) (H' : Hp) (us : List V) (rs : List D), Same H H' → SqT K H' p us → DinA K H' us rs → (∀ r, good many r (.tup rs) = false) → Q (.ref p) H'
theorem rowsLe {r : Nat} {rows : List D} : rows.length ≤ cnt (r + 1) (.tup rows) := by
  rw [cnt_tup]
  induction rows with
  | nil => simp
  | cons x t ih =>
    simp only [List.length_cons, List.map_cons, List.sum_cons, cntRow] at ih ⊢
    omega
theorem natsAt {p : List Nat} {j n : Nat} (h : p[j]? = some n) : (nats p)[j]? = some (.int (n : Int)) := by simp [nats, h]
abbrev s__law_changed : Stmt := topS 36
theorem sc__law_changed : FnScope ["_law_rows_here", "_law_place", "_law_row_here", "_law_at_here", "_law_parts", "_law_inner"] ["_law_rows_here", "_law_place", "_law_row_here"] (defScope s__law_changed) := ⟨rfl, rfl, rfl, by decide +kernel, rfl, by decide +kernel, by decide +kernel⟩

theorem ok__law_changed {f : Addr} {fd : FuncData} {k i : Nat} (F : Fun K "_law_changed" "_law_changed" s__law_changed f fd) (B : Bl mg) (c__law_changed : C8.Cal P w K mg base k "_law_changed" (spChg K i) []) : FnOk P w K mg base CX0 (k + 1) f fd ["_law_rows_here", "_law_place", "_law_row_here"] (spChg K (i + 1)) := by
  refine F.ok sc__law_changed (fun vs H Q E h => ?_) (fun cdv A outer s H vs Q E hr h => ?_)
  · obtain ⟨many, a, b, nv, xs, rows, place, d, bd, rfl, _⟩ := h
    rfl
  obtain ⟨many, a, b, nv, xs, rows, place, d, bd, rfl, hT, hA, hB, hN, hbad, hg, hi1, hl, hlen, hcnt, q⟩ := h
  refine ⟨_, (pss_cons (ps_set (i := 3) sc__law_changed.nd rfl (.inl rfl) (pe_ix (kIxT (K := K) rfl) (pv 1) pe_int (fun _ _ => rfl)))
    (C8.pss_cut (ps_if (pt_cmpR op_gt (pe_callB (kLen (K := K) rfl) (by rfl) B.len PySem.boot_len (pa_cons (pv 1) pa_nil)) pe_int (nomark _))
      (pss_cons (ps_set (i := 4) sc__law_changed.nd rfl (.inl rfl) (pe_callTy (kList (K := K) rfl) (by rfl) B.list (by decide +kernel) (pa_cons (pe_ix (kIxT (K := K) rfl) (pv 0) (pv 3) (fun _ _ => rfl)) pa_nil)))
      (pss_cons (ps_set (i := 5) sc__law_changed.nd rfl (.inl rfl) (pe_ix (kIxL (K := K) rfl) (pe_lst (pa_cons (pe_op op_add pe_int (pe_ix (kIxT (K := K) rfl) (pv 1) pe_int (fun _ _ => rfl))) (pa_cons pe_int pa_nil))) (pe_callTy call_int1 (by rfl) B.int (by decide +kernel) (pa_cons (pe_cmpR op_eq (pe_ix (kIxL (K := K) rfl) (pv 4) pe_int (fun _ _ => rfl)) pe_str (nomark _)) pa_nil)) (fun _ _ => rfl)))
      (pss_cons (ps_asg (C8.pe_c c__law_changed hr (Nat.le_refl _) (by rfl) (pa_cons (pe_ix (kIxL (K := K) rfl) (pv 4) (pv 5) (fun _ _ => rfl)) (pa_cons (pe_slice (kSlT (K := K) rfl) (pv 1) (po_some pe_int) po_none) (pa_cons (pv 2) pa_nil)))) (pg_sub (pv 4) (pv 5) set_list))
      (pss_one (ps_set (i := 2) sc__law_changed.nd rfl (.inl rfl) (pe_callTy (kTup (K := K) rfl) (by rfl) B.tuple (by decide +kernel) (pa_cons (pv 4) pa_nil)))))))
      pss_nil)
    (pss_one (ps_ret (pe_op (kCatT (K := K) rfl) (pe_op (kCatT (K := K) rfl) (pe_slice (kSlT (K := K) rfl) (pv 0) po_none (po_some (pv 3))) (pe_tup (pa_cons (pv 2) pa_nil))) (pe_slice (kSlT (K := K) rfl) (pv 0) (po_some (pe_op op_add (pv 3) pe_int)) po_none)))))), ?_⟩
  have szl : (100000 : Nat) ≤ sizeLine := by decide
  have hgr : ∀ d ∈ rows, GRow many i d := fun d hd => by
    obtain ⟨r, e, g⟩ := hg d hd
    have : r = i := by omega
    exact this ▸ g
  have lA := hA.len
  cases place with
  | nil => cases hl
  | cons n rest =>
  obtain ⟨d0, ed0, hl1⟩ : ∃ d0, rows[n]? = some d0 ∧ look1 d0 rest = some d := by
    simp only [lookR] at hl
    cases e : rows[n]? with
    | none => rw [e] at hl; cases hl
    | some d0 => rw [e] at hl; exact ⟨d0, rfl, hl⟩
  obtain ⟨rv, erv, hd0⟩ := dinAtD hA ed0
  have nl : n < rows.length := (List.getElem?_eq_some_iff.mp ed0).1
  refine ⟨_, rfl, _, _, _, _, rfl, rfl, hB, atI_nat (j := 0) rfl, ?_⟩
  refine ⟨fun σ' H' => ∃ (v : V) (bd' : D) (y4 y5 : Option V), σ' = [some (.ref a), some (.ref b), some v, some (.int (n : Int)), y4, y5] ∧ Same H H' ∧ Din K H' v bd' ∧ Bad many bd', ?_, ?_⟩
  · refine ⟨_, rfl, _, _, rfl, .inr hB, _, _, rfl, rfl, _, rfl, ?_⟩
    refine yesDec (fun c => ?_) (fun c => ?_)
    · obtain ⟨w', m, rest', rfl⟩ : ∃ w' m rest', rest = w' :: m :: rest' := by
        cases rest with
        | nil => simp [nats] at c
        | cons w' r2 =>
          cases r2 with
          | nil => cases hl1
          | cons m r3 => exact ⟨_, _, _, rfl⟩
      obtain ⟨x, ex, hl2⟩ : ∃ x, (inner d0)[w']? = some x ∧ lookR (rowsOf x) (m :: rest') = some d := by
        simp only [look1] at hl1
        cases e : (inner d0)[w']? with
        | none => rw [e] at hl1; cases hl1
        | some x => rw [e] at hl1; exact ⟨x, rfl, hl1⟩
      have g0 := hgr d0 (List.mem_of_getElem? ed0)
      have hcm := cntMem (r := i) (List.mem_of_getElem? ed0)
      obtain ⟨k1, k2, k3, k4, k5, k6, _⟩ := kinds
      rcases gKinds g0 with ⟨b', s', rfl⟩ | ⟨w2, rfl⟩ | ⟨r2, w2, a', b', ei, rfl, ga, gb⟩ | ⟨r2, w2, ws', b', ei, rfl, gb⟩
      · rw [in_put] at ex; cases ex
      · rw [in_say] at ex; cases ex
      · rw [cnt_if] at hcm
        rw [in_if] at ex
        cases hd0 with
        | tup hR hRA =>
          cases hRA with
          | cons h0 hA1 =>
            cases h0
            cases hA1 with
            | cons hw hA2 =>
              cases hA2 with
              | cons ha hA3 =>
                cases hA3 with
                | cons hb hA4 =>
                  cases hA4
                  rename_i y1 y2 y3
                  cases ha with
                  | @tup a2 _ _ haT haA =>
                    cases hb with
                    | @tup a3 _ _ hbT hbA =>
                      cases w' with
                      | zero =>
                        have : x = .tup a' := by simpa using ex.symm
                        subst this
                        refine ⟨_, rfl, _, rfl, _, _, _, _, rfl, rfl, hT, atI_nat erv, _, _, rfl, .inr hR, fun L nL => ?_⟩
                        refine ⟨_, rfl, _, _, _, _, rfl, rfl, tupS (sameNew nL) hB, atI_nat (j := 1) rfl, _, _, rfl, rfl, by show 2 ≤ sizeLine; decide, fun U nU => ?_⟩
                        refine ⟨_, rfl, _, _, _, _, rfl, rfl, .of (sameNew nU _ _ upd_same), atI_nat (j := 0) rfl, rfl, .inr ⟨_, rfl, _, _, _, _, rfl, rfl, .of upd_same, (show atI _ _ = some (.int (2 + ((0 : Nat) : Int))) from by rw [decS k6]; rfl), ?_⟩⟩
                        have sU : Same H (upd (upd H L (.lst [.str "if", y1, .ref a2, .ref a3])) U (.lst [.int (2 + ((0 : Nat) : Int)), .int 3])) := Same.trans (sameNew nL) (sameNew nU)
                        have hLU : upd (upd H L (.lst [.str "if", y1, .ref a2, .ref a3])) U (.lst [.int (2 + ((0 : Nat) : Int)), .int 3]) L = some (.lst [.str "if", y1, .ref a2, .ref a3]) := sameNew nU _ _ upd_same
                        generalize upd (upd H L (.lst [.str "if", y1, .ref a2, .ref a3])) U (.lst [.int (2 + ((0 : Nat) : Int)), .int 3]) = HU at *
                        refine ⟨_, rfl, _, rfl, _, _, _, _, rfl, rfl, .of hLU, atI_nat (j := 2) rfl, _, rfl, _, rfl, slUseN (tupS sU hB) fun r1 H1 s1 h1 => ?_⟩
                        rw [show ((2 : Int)) = ((2 : Nat) : Int) from rfl, cutDrop] at h1
                        have s01 := Same.trans sU s1
                        refine ⟨_, rfl, many, _, r1, nv, _, a', m :: rest', d, bd, rfl, tupS s01 haT, dinASame s01 haA, h1, dinSame s01 hN, hbad, fun x hx => ⟨r2, ei, ga x hx⟩, by omega, hl2, Nat.le_trans (rowsLe (r := r2)) (by rw [← ei]; omega), by omega, fun p2 H2 us rs s2 hp2 hus hrs => ?_⟩
                        have s02 := Same.trans s01 s2
                        have hL2 : H2 L = some (.lst [.str "if", y1, .ref a2, .ref a3]) := (Same.trans s1 s2) _ _ hLU
                        refine ⟨_, rfl, _, rfl, L, _, _, 2, rfl, rfl, hL2, rfl, ?_⟩
                        refine ⟨_, rfl, _, _, rfl, .inl ⟨.of upd_same, fun T nT => ?_⟩⟩
                        have sm3 : Same H (upd (upd H2 L (.lst [.str "if", y1, .ref p2, .ref a3])) T (.tup [.str "if", y1, .ref p2, .ref a3])) := Same.trans (sameMut s02 nL) (sameNew nT)
                        refine ⟨.ref T, .tup [.str "if", w2, .tup rs, .tup b'], _, _, rfl, sm3, .tup (.of upd_same) (.cons (.str _) (.cons (dinSame sm3 hw) (.cons (dinSame (sameNew nT) (.tup (tsTup (tsLst hL2) hp2) (dinAMut hL2 hus))) (.cons (dinSame sm3 (.tup hbT hbA)) .nil)))), ?_⟩
                        refine badIn (x := .tup rs) ?_ hrs
                        rw [in_if]; simp
                      | succ w'' =>
                        cases w'' with
                        | zero =>
                          have : x = .tup b' := by simpa using ex.symm
                          subst this
                          refine ⟨_, rfl, _, rfl, _, _, _, _, rfl, rfl, hT, atI_nat erv, _, _, rfl, .inr hR, fun L nL => ?_⟩
                          refine ⟨_, rfl, _, _, _, _, rfl, rfl, tupS (sameNew nL) hB, atI_nat (j := 1) rfl, _, _, rfl, rfl, by show 2 ≤ sizeLine; decide, fun U nU => ?_⟩
                          refine ⟨_, rfl, _, _, _, _, rfl, rfl, .of (sameNew nU _ _ upd_same), atI_nat (j := 0) rfl, rfl, .inr ⟨_, rfl, _, _, _, _, rfl, rfl, .of upd_same, (show atI _ _ = some (.int (2 + ((1 : Nat) : Int))) from by rw [decS k6]; rfl), ?_⟩⟩
                          have sU : Same H (upd (upd H L (.lst [.str "if", y1, .ref a2, .ref a3])) U (.lst [.int (2 + ((1 : Nat) : Int)), .int 3])) := Same.trans (sameNew nL) (sameNew nU)
                          have hLU : upd (upd H L (.lst [.str "if", y1, .ref a2, .ref a3])) U (.lst [.int (2 + ((1 : Nat) : Int)), .int 3]) L = some (.lst [.str "if", y1, .ref a2, .ref a3]) := sameNew nU _ _ upd_same
                          generalize upd (upd H L (.lst [.str "if", y1, .ref a2, .ref a3])) U (.lst [.int (2 + ((1 : Nat) : Int)), .int 3]) = HU at *
                          refine ⟨_, rfl, _, rfl, _, _, _, _, rfl, rfl, .of hLU, atI_nat (j := 3) rfl, _, rfl, _, rfl, slUseN (tupS sU hB) fun r1 H1 s1 h1 => ?_⟩
                          rw [show ((2 : Int)) = ((2 : Nat) : Int) from rfl, cutDrop] at h1
                          have s01 := Same.trans sU s1
                          refine ⟨_, rfl, many, _, r1, nv, _, b', m :: rest', d, bd, rfl, tupS s01 hbT, dinASame s01 hbA, h1, dinSame s01 hN, hbad, fun x hx => ⟨r2, ei, gb x hx⟩, by omega, hl2, Nat.le_trans (rowsLe (r := r2)) (by rw [← ei]; omega), by omega, fun p2 H2 us rs s2 hp2 hus hrs => ?_⟩
                          have s02 := Same.trans s01 s2
                          have hL2 : H2 L = some (.lst [.str "if", y1, .ref a2, .ref a3]) := (Same.trans s1 s2) _ _ hLU
                          refine ⟨_, rfl, _, rfl, L, _, _, 3, rfl, rfl, hL2, rfl, ?_⟩
                          refine ⟨_, rfl, _, _, rfl, .inl ⟨.of upd_same, fun T nT => ?_⟩⟩
                          have sm3 : Same H (upd (upd H2 L (.lst [.str "if", y1, .ref a2, .ref p2])) T (.tup [.str "if", y1, .ref a2, .ref p2])) := Same.trans (sameMut s02 nL) (sameNew nT)
                          refine ⟨.ref T, .tup [.str "if", w2, .tup a', .tup rs], _, _, rfl, sm3, .tup (.of upd_same) (.cons (.str _) (.cons (dinSame sm3 hw) (.cons (dinSame sm3 (.tup haT haA)) (.cons (dinSame (sameNew nT) (.tup (tsTup (tsLst hL2) hp2) (dinAMut hL2 hus))) .nil)))), ?_⟩
                          refine badIn (x := .tup rs) ?_ hrs
                          rw [in_if]; simp
                        | succ w3 => simp at ex
      · rw [cnt_loop] at hcm
        rw [in_loop] at ex
        cases hd0 with
        | tup hR hRA =>
          cases hRA with
          | cons h0 hA1 =>
            cases h0
            cases hA1 with
            | cons hw hA2 =>
              cases hA2 with
              | cons hws hA3 =>
                cases hA3 with
                | cons hb hA4 =>
                  cases hA4
                  rename_i y1 y2 y3
                  cases hb with
                  | @tup a3 _ _ hbT hbA =>
                    cases w' with
                    | zero =>
                      have : x = .tup b' := by simpa using ex.symm
                      subst this
                      refine ⟨_, rfl, _, rfl, _, _, _, _, rfl, rfl, hT, atI_nat erv, _, _, rfl, .inr hR, fun L nL => ?_⟩
                      refine ⟨_, rfl, _, _, _, _, rfl, rfl, tupS (sameNew nL) hB, atI_nat (j := 1) rfl, _, _, rfl, rfl, by show 2 ≤ sizeLine; decide, fun U nU => ?_⟩
                      refine ⟨_, rfl, _, _, _, _, rfl, rfl, .of (sameNew nU _ _ upd_same), atI_nat (j := 0) rfl, rfl, .inr ⟨_, rfl, _, _, _, _, rfl, rfl, .of upd_same, (show atI _ _ = some (.int 3) from by rw [decide_eq_true rfl]; rfl), ?_⟩⟩
                      have sU : Same H (upd (upd H L (.lst [.str "loop", y1, y2, .ref a3])) U (.lst [.int (2 + ((0 : Nat) : Int)), .int 3])) := Same.trans (sameNew nL) (sameNew nU)
                      have hLU : upd (upd H L (.lst [.str "loop", y1, y2, .ref a3])) U (.lst [.int (2 + ((0 : Nat) : Int)), .int 3]) L = some (.lst [.str "loop", y1, y2, .ref a3]) := sameNew nU _ _ upd_same
                      generalize upd (upd H L (.lst [.str "loop", y1, y2, .ref a3])) U (.lst [.int (2 + ((0 : Nat) : Int)), .int 3]) = HU at *
                      refine ⟨_, rfl, _, rfl, _, _, _, _, rfl, rfl, .of hLU, atI_nat (j := 3) rfl, _, rfl, _, rfl, slUseN (tupS sU hB) fun r1 H1 s1 h1 => ?_⟩
                      rw [show ((2 : Int)) = ((2 : Nat) : Int) from rfl, cutDrop] at h1
                      have s01 := Same.trans sU s1
                      refine ⟨_, rfl, many, _, r1, nv, _, b', m :: rest', d, bd, rfl, tupS s01 hbT, dinASame s01 hbA, h1, dinSame s01 hN, hbad, fun x hx => ⟨r2, ei, gb x hx⟩, by omega, hl2, Nat.le_trans (rowsLe (r := r2)) (by rw [← ei]; omega), by omega, fun p2 H2 us rs s2 hp2 hus hrs => ?_⟩
                      have s02 := Same.trans s01 s2
                      have hL2 : H2 L = some (.lst [.str "loop", y1, y2, .ref a3]) := (Same.trans s1 s2) _ _ hLU
                      refine ⟨_, rfl, _, rfl, L, _, _, 3, rfl, rfl, hL2, rfl, ?_⟩
                      refine ⟨_, rfl, _, _, rfl, .inl ⟨.of upd_same, fun T nT => ?_⟩⟩
                      have sm3 : Same H (upd (upd H2 L (.lst [.str "loop", y1, y2, .ref p2])) T (.tup [.str "loop", y1, y2, .ref p2])) := Same.trans (sameMut s02 nL) (sameNew nT)
                      refine ⟨.ref T, .tup [.str "loop", w2, ws', .tup rs], _, _, rfl, sm3, .tup (.of upd_same) (.cons (.str _) (.cons (dinSame sm3 hw) (.cons (dinSame sm3 hws) (.cons (dinSame (sameNew nT) (.tup (tsTup (tsLst hL2) hp2) (dinAMut hL2 hus))) .nil)))), ?_⟩
                      refine badIn (x := .tup rs) ?_ hrs
                      rw [in_loop]; simp
                    | succ w'' => simp at ex
    · exact ⟨nv, bd, none, none, rfl, Same.refl _, hN, hbad⟩
  · rintro σ' H' ⟨v, bd', y4, y5, rfl, sm, hv, hbad'⟩
    refine ⟨_, rfl, _, rfl, _, rfl, slUse (tupS sm hT) fun r1 H1 s1 h1 => ?_⟩
    rw [cutTake] at h1
    refine ⟨_, rfl, by show 1 ≤ sizeLine; decide, fun U nU => ?_⟩
    refine catUse (tupS (sameNew nU) h1) (.of upd_same) (by simp; omega) fun r2 H2 s2 h2 => ?_
    have s02 := Same.trans sm (Same.trans s1 (Same.trans (sameNew (o := .tup [v]) nU) s2))
    refine ⟨_, rfl, _, rfl, _, _, rfl, rfl, _, rfl, slUseN (tupS s02 hT) fun r3 H3 s3 h3 => ?_⟩
    have e1 : (n : Int) + 1 = ((n + 1 : Nat) : Int) := by omega
    rw [e1, cutDrop] at h3
    refine catUse (tupS s3 h2) h3 (by simp; omega) fun r4 H4 s4 h4 => ?_
    have s04 := Same.trans s02 (Same.trans s3 s4)
    have hA4 := dinASame s04 hA
    have hv4 : Din K H4 v bd' := dinSame (Same.trans (Same.trans s1 (Same.trans (sameNew (o := .tup [v]) nU) s2)) (Same.trans s3 s4)) hv
    refine q r4 H4 _ (rows.take n ++ [bd'] ++ rows.drop (n + 1)) s04 h4 (dinApp (dinApp (dinTake n hA4) (.cons hv4 .nil)) (dinDrop (n + 1) hA4)) (badRows (d := bd') (by simp) hbad')

end

end LW

namespace LW
open PySem PySem.Spec PyProof.Rows L2
local macro_rules | `(tactic| walk_at "go1") => `(tactic| first
  | refine ⟨_, rfl, ?_⟩
  | refine ⟨_, _, rfl, rfl, ?_⟩
  | refine ⟨show (0 : Int) < _ from by omega, ?_⟩
  | refine ⟨show CMul _ _ from by first | exact .inl ⟨by omega, by omega⟩ | exact .inr ⟨by omega, by omega⟩, ?_⟩
  | refine ⟨show CDiv _ _ from ⟨by omega, by omega⟩, ?_⟩)
local macro_rules | `(tactic| walk_at "go") => `(tactic| repeat walk_at "go1")

section
variable {P : Program} {w : World} {K : PySem.W.Frag} {mg : Str → Option Value} {base : Heap}

def spBadS (K : PySem.W.Frag) : Sp := fun vs H Q _ => ∃ (cell : Int) (v : V) (sm : Sm) (many : Nat), vs = [.int cell, v] ∧ 0 ≤ cell ∧ SumIn K H v sm ∧ SumW many sm ∧ 1 ≤ many ∧ many ≤ 3 ∧
  ∀ (H' : Hp) (v' : V) (bd : D), Same H H' → Din K H' v' bd → sumOk many bd = false → Q v' H'
theorem pickBad {xs : List V} {i : Int} {p : D → Bool} (h0 : 0 ≤ i) (h1 : i < xs.length) (hx : ∀ v ∈ xs, ∃ d : D, (∀ (K : PySem.W.Frag) (H : Hp), Din K H v d) ∧ p d = false) : ∃ v d, atI xs i = some v ∧ (∀ (K : PySem.W.Frag) (H : Hp), Din K H v d) ∧ p d = false := by
  obtain ⟨j, rfl⟩ : ∃ j : Nat, i = (j : Int) := ⟨i.toNat, by omega⟩
  have hj : j < xs.length := by omega
  obtain ⟨d, h2, h3⟩ := hx xs[j] (List.getElem_mem _)
  exact ⟨xs[j], d, atI_nat (List.getElem?_eq_getElem hj), h2, h3⟩
theorem sumNo1 {many : Nat} {ns : List D} {l : D} (h : ns.length ≠ many) : sumOk many (.tup [.tup ns, l]) = false := by simp [sumOk, h]
theorem sumNo2 {many : Nat} {ns : List D} {l : D} (h : fromTo l (-99) 99 = false) : sumOk many (.tup [.tup ns, l]) = false := by simp [sumOk, h]
theorem sumNo3 {many : Nat} {ns : List D} {l n : D} (m : n ∈ ns) (h : fromTo n (-9) 9 = false) : sumOk many (.tup [.tup ns, l]) = false := by
  simp only [sumOk]
  have : (ns.all fun n => fromTo n (-9) 9) = false := by
    refine Bool.eq_false_iff.mpr fun z => ?_
    rw [List.all_eq_true] at z
    have := z n m
    rw [h] at this
    cases this
  rw [this]
  simp
theorem dinSet {K : PySem.W.Frag} {H : Hp} : ∀ {vs : List V} {ds : List D} {j : Nat} {v : V} {d : D}, DinA K H vs ds → Din K H v d → DinA K H (vs.set j v) (ds.set j d)
  | _, _, _, _, _, .nil, _ => by simpa using DinA.nil
  | _, _, 0, _, _, .cons _ t, h => .cons h t
  | _, _, j + 1, _, _, .cons a t, h => .cons a (dinSet t h)
abbrev s__law_bad_sum : Stmt := topS 37
theorem sc__law_bad_sum : FnScope ["_law_cell", "_law_one", "_law_numbers", "_law_at_here", "_law_way"] ["_law_cell", "_law_one"] (defScope s__law_bad_sum) := ⟨rfl, rfl, rfl, by decide +kernel, rfl, by decide +kernel, by decide +kernel⟩

theorem ok__law_bad_sum {f : Addr} {fd : FuncData} {k : Nat} (F : Fun K "_law_bad_sum" "_law_bad_sum" s__law_bad_sum f fd) (B : Bl mg) : FnOk P w K mg base CX0 (k + 1) f fd ["_law_cell", "_law_one"] (spBadS K) := by
  refine F.ok sc__law_bad_sum (fun vs H Q E h => ?_) (fun cdv A outer s H vs Q E hr h => ?_)
  · obtain ⟨cell, v, sm, many, rfl, _⟩ := h
    rfl
  obtain ⟨cell, v, ⟨ns, l⟩, many, rfl, c0, ⟨a, t, rfl, h1, h2⟩, hw, m1, m3, q⟩ := h
  refine ⟨_, (pss_cons (ps_set (i := 2) sc__law_bad_sum.nd rfl (.inl rfl) (pe_callTy (kList (K := K) rfl) (by rfl) B.list (by decide +kernel) (pa_cons (pe_ix (kIxT (K := K) rfl) (pv 1) pe_int (fun _ _ => rfl)) pa_nil)))
    (pss_cons (ps_set (i := 3) sc__law_bad_sum.nd rfl (.inl rfl) (pe_op op_mod (pe_op op_fdiv (pv 0) pe_int) (pe_callB (kLen (K := K) rfl) (by rfl) B.len PySem.boot_len (pa_cons (pv 2) pa_nil))))
    (pss_cons (ps_set (i := 4) sc__law_bad_sum.nd rfl (.inl rfl) (pe_op op_mod (pv 0) pe_int))
    (pss_cons (ps_if (pt_cmpR op_eq (pv 4) pe_int (nomark _))
      (pss_one (ps_ret (pe_tup (pa_cons (pv 2) (pa_cons (pe_ix (kIxT (K := K) rfl) (pv 1) pe_int (fun _ _ => rfl)) pa_nil)))))
      pss_nil)
    (pss_cons (ps_if (pt_cmpR op_eq (pv 4) pe_int (nomark _))
      (pss_one (ps_ret (pe_tup (pa_cons (pe_op (kCatT (K := K) rfl) (pe_ix (kIxT (K := K) rfl) (pv 1) pe_int (fun _ _ => rfl)) (pe_tup (pa_cons pe_int pa_nil))) (pa_cons (pe_ix (kIxT (K := K) rfl) (pv 1) pe_int (fun _ _ => rfl)) pa_nil)))))
      pss_nil)
    (pss_cons (ps_if (pt_cmpR op_eq (pv 4) pe_int (nomark _))
      (pss_one (ps_ret (pe_tup (pa_cons (pe_slice (kSlT (K := K) rfl) (pe_ix (kIxT (K := K) rfl) (pv 1) pe_int (fun _ _ => rfl)) (po_some pe_int) po_none) (pa_cons (pe_ix (kIxT (K := K) rfl) (pv 1) pe_int (fun _ _ => rfl)) pa_nil)))))
      pss_nil)
    (pss_cons (ps_if (pt_cmpR op_eq (pv 4) pe_int (nomark _))
      (pss_one (ps_ret (pe_tup (pa_cons (pe_ix (kIxT (K := K) rfl) (pv 1) pe_int (fun _ _ => rfl)) (pa_cons (pe_ix (kIxL (K := K) rfl) (pe_lst (pa_cons pe_int (pa_cons (pe_un un_neg pe_int) (pa_cons pe_bl (pa_cons pe_non (pa_cons pe_str (pa_cons (pe_op op_pow pe_int pe_int) pa_nil))))))) (pe_op op_mod (pe_op op_fdiv (pv 0) pe_int) pe_int) (fun _ _ => rfl)) pa_nil)))))
      pss_nil)
    (pss_cons (ps_if (pt_cmpR op_eq (pv 4) pe_int (nomark _))
      (pss_one (ps_ret (pe_slice (kSlT (K := K) rfl) (pv 1) po_none (po_some pe_int))))
      pss_nil)
    (pss_cons (ps_if (pt_cmpR op_eq (pv 4) pe_int (nomark _))
      (pss_one (ps_ret (pe_callTy (kList (K := K) rfl) (by rfl) B.list (by decide +kernel) (pa_cons (pv 1) pa_nil))))
      pss_nil)
    (pss_cons (ps_asg (pe_ix (kIxL (K := K) rfl) (pe_lst (pa_cons pe_int (pa_cons (pe_un un_neg pe_int) (pa_cons pe_bl (pa_cons pe_non (pa_cons pe_str (pa_cons (pe_op op_pow pe_int pe_int) pa_nil))))))) (pe_op op_mod (pe_op op_fdiv (pv 0) pe_int) pe_int) (fun _ _ => rfl)) (pg_sub (pv 2) (pv 3) set_list))
    (pss_one (ps_ret (pe_tup (pa_cons (pe_callTy (kTup (K := K) rfl) (by rfl) B.tuple (by decide +kernel) (pa_cons (pv 2) pa_nil)) (pa_cons (pe_ix (kIxT (K := K) rfl) (pv 1) pe_int (fun _ _ => rfl)) pa_nil))))))))))))))), ?_⟩
  have hl : ns.length = many := hw.1
  have dv : ∀ z : Int, CDiv z 8 ∧ CDiv z 24 := fun z => ⟨⟨by decide, by decide⟩, ⟨by decide, by decide⟩⟩
  dsimp only at h1 h2
  refine ⟨_, rfl, _, _, _, _, rfl, rfl, h1, atI_nat (j := 0) rfl, _, _, rfl, .inr h2, fun L nL => ?_⟩
  have s1 : Same H (upd H L (.lst (ns.map V.int))) := sameNew nL
  have hL : upd H L (.lst (ns.map V.int)) L = some (.lst (ns.map V.int)) := upd_same
  generalize upd H L (.lst (ns.map V.int)) = H1 at *
  have h1' := tupS s1 h1
  have h2' := tupS s1 h2
  refine ⟨_, rfl, _, _, rfl, rfl, (dv _).1, _, rfl, _, _, rfl, .inl (.of hL), _, _, rfl, rfl, (by show (0 : Int) < (((ns.map V.int).length : Nat) : Int); simp; omega), ?_⟩
  have e0 : 0 ≤ cell / 8 % (((ns.map V.int).length : Nat) : Int) := Int.emod_nonneg _ (by rw [List.length_map]; omega)
  have e1 : cell / 8 % (((ns.map V.int).length : Nat) : Int) < (((ns.map V.int).length : Nat) : Int) := Int.emod_lt_of_pos _ (by simp; omega)
  refine ⟨_, rfl, _, _, rfl, rfl, (show (0 : Int) < 8 by decide), ?_⟩
  refine ⟨_, rfl, rfl, _, rfl, ?_⟩
  refine yesDec (fun c => ?_) (fun c => ?_)
  · refine ⟨_, rfl, _, rfl, _, _, _, _, rfl, rfl, h1', atI_nat (j := 1) rfl, by show 2 ≤ sizeLine; decide, fun T nT => ?_⟩
    exact q _ (.ref T) (.tup [.lst, .int l]) (Same.trans s1 (sameNew nT)) (.tup (.of upd_same) (.cons (.lst (.of (sameNew nT _ _ hL))) (.cons (.int l) .nil))) rfl
  refine ⟨_, rfl, rfl, _, rfl, ?_⟩
  refine yesDec (fun c1 => ?_) (fun c1 => ?_)
  · refine ⟨_, rfl, _, _, _, _, rfl, rfl, h1', atI_nat (j := 0) rfl, by show 1 ≤ sizeLine; decide, fun U nU => ?_⟩
    refine catUse (tupS (sameNew nU) h2') (.of upd_same) (by simp; omega) fun r H2 s2 hr2 => ?_
    have s3 := Same.trans (sameNew (o := .tup [.int 0]) nU) s2
    refine ⟨_, rfl, _, _, _, _, rfl, rfl, tupS s3 h1', atI_nat (j := 1) rfl, by show 2 ≤ sizeLine; decide, fun T nT => ?_⟩
    exact q _ (.ref T) (.tup [.tup (ns.map D.int ++ [.int 0]), .int l]) (Same.trans s1 (Same.trans s3 (sameNew nT))) (.tup (.of upd_same) (.cons (.tup (tupS (sameNew nT) hr2) (dinApp (dinInts ns) (.cons (.int 0) .nil))) (.cons (.int l) .nil))) (sumNo1 (by simp; omega))
  refine ⟨_, rfl, rfl, _, rfl, ?_⟩
  refine yesDec (fun c2 => ?_) (fun c2 => ?_)
  · refine ⟨_, rfl, _, _, _, _, rfl, rfl, h1', atI_nat (j := 0) rfl, _, rfl, slUseN h2' fun r H2 s2 hr2 => ?_⟩
    rw [show (1 : Int) = ((1 : Nat) : Int) from rfl, cutDrop] at hr2
    refine ⟨_, rfl, _, _, _, _, rfl, rfl, tupS s2 h1', atI_nat (j := 1) rfl, by show 2 ≤ sizeLine; decide, fun T nT => ?_⟩
    exact q _ (.ref T) (.tup [.tup ((ns.map D.int).drop 1), .int l]) (Same.trans s1 (Same.trans s2 (sameNew nT))) (.tup (.of upd_same) (.cons (.tup (tupS (sameNew nT) hr2) (dinDrop 1 (dinInts ns))) (.cons (.int l) .nil))) (sumNo1 (by simp; omega))
  refine ⟨_, rfl, rfl, _, rfl, ?_⟩
  refine yesDec (fun c3 => ?_) (fun c3 => ?_)
  · refine ⟨_, rfl, _, _, _, _, rfl, rfl, h1', atI_nat (j := 0) rfl, _, rfl, _, _, rfl, rfl, (show CPow 10 20 from ⟨by decide, by decide, by decide⟩), by show 6 ≤ sizeLine; decide, fun U nU => ?_⟩
    obtain ⟨bv, bd, ebv, hbv, hno⟩ := pickBad (xs := [.int 100, .int (-100), .bl true, .non, .str "0", .int (10 ^ (20 : Int).toNat)]) (i := cell / 24 % 6) (p := fun d => fromTo d (-99) 99) (by omega) (by show cell / 24 % 6 < 6; omega) (by
      intro v hv
      simp only [List.mem_cons, List.not_mem_nil, or_false] at hv
      rcases hv with rfl | rfl | rfl | rfl | rfl | rfl
      · exact ⟨.int _, fun _ _ => .int _, by decide⟩
      · exact ⟨.int _, fun _ _ => .int _, by decide⟩
      · exact ⟨.bl _, fun _ _ => .bl _, rfl⟩
      · exact ⟨.non, fun _ _ => .non, rfl⟩
      · exact ⟨.str _, fun _ _ => .str _, rfl⟩
      · exact ⟨.int _, fun _ _ => .int _, by decide⟩)
    refine ⟨_, rfl, _, _, rfl, rfl, (dv _).2, _, _, rfl, rfl, (show (0 : Int) < 6 by decide), _, _, _, _, rfl, rfl, .of upd_same, ebv, by show 2 ≤ sizeLine; decide, fun T nT => ?_⟩
    exact q _ (.ref T) (.tup [.tup (ns.map D.int), bd]) (Same.trans s1 (Same.trans (sameNew nU) (sameNew nT))) (.tup (.of upd_same) (.cons (.tup (tupS (Same.trans (sameNew nU) (sameNew nT)) h2') (dinInts ns)) (.cons (hbv _ _) .nil))) (sumNo2 hno)
  refine ⟨_, rfl, rfl, _, rfl, ?_⟩
  refine yesDec (fun c4 => ?_) (fun c4 => ?_)
  · refine ⟨_, rfl, _, rfl, slUse h1' fun r H2 s2 hr2 => ?_⟩
    rw [show (1 : Int) = ((1 : Nat) : Int) from rfl, cutTake] at hr2
    exact q _ (.ref r) (.tup [.tup (ns.map D.int)]) (Same.trans s1 s2) (.tup hr2 (.cons (.tup (tupS s2 h2') (dinInts ns)) .nil)) (sumOk_not (by simp))
  refine ⟨_, rfl, rfl, _, rfl, ?_⟩
  refine yesDec (fun c5 => ?_) (fun c5 => ?_)
  · refine ⟨_, rfl, _, _, rfl, .inr h1', fun T nT => ?_⟩
    exact q _ (.ref T) .lst (Same.trans s1 (sameNew nT)) (.lst (.of upd_same)) rfl
  refine ⟨_, rfl, _, _, rfl, rfl, (show CPow 10 20 from ⟨by decide, by decide, by decide⟩), by show 6 ≤ sizeLine; decide, fun U nU => ?_⟩
  obtain ⟨bv, bd, ebv, hbv, hno⟩ := pickBad (xs := [.int 10, .int (-10), .bl true, .non, .str "1", .int (10 ^ (20 : Int).toNat)]) (i := cell / 24 % 6) (p := fun d => fromTo d (-9) 9) (by omega) (by show cell / 24 % 6 < 6; omega) (by
    intro v hv
    simp only [List.mem_cons, List.not_mem_nil, or_false] at hv
    rcases hv with rfl | rfl | rfl | rfl | rfl | rfl
    · exact ⟨.int _, fun _ _ => .int _, by decide⟩
    · exact ⟨.int _, fun _ _ => .int _, by decide⟩
    · exact ⟨.bl _, fun _ _ => .bl _, rfl⟩
    · exact ⟨.non, fun _ _ => .non, rfl⟩
    · exact ⟨.str _, fun _ _ => .str _, rfl⟩
    · exact ⟨.int _, fun _ _ => .int _, by decide⟩)
  have nLH : H L = none := nL
  have hLU := sameNew (o := .lst [.int 10, .int (-10), .bl true, .non, .str "1", .int (10 ^ (20 : Int).toNat)]) nU _ _ hL
  have j0 : (cell / 8 % (((ns.map V.int).length : Nat) : Int)).toNat < ns.length := by
    simp at e0 e1 ⊢
    omega
  refine ⟨_, rfl, _, _, rfl, rfl, (dv _).2, _, _, rfl, rfl, (show (0 : Int) < 6 by decide), _, _, _, _, rfl, rfl, .of upd_same, ebv, _, rfl, _, rfl, L, _, _, (cell / 8 % (((ns.map V.int).length : Nat) : Int)).toNat, rfl, rfl, hLU, (by unfold ixN; rw [if_pos e0, if_pos e1]), ?_⟩
  have s5 := sameMut (o := .lst ((ns.map V.int).set (cell / 8 % (((ns.map V.int).length : Nat) : Int)).toNat bv)) (Same.trans s1 (sameNew (o := .lst [.int 10, .int (-10), .bl true, .non, .str "1", .int (10 ^ (20 : Int).toNat)]) nU)) nLH
  refine ⟨_, rfl, _, _, rfl, .inl ⟨.of upd_same, fun T nT => ⟨_, rfl, _, _, _, _, rfl, rfl, tupS (Same.trans s5 (sameNew nT)) h1, atI_nat (j := 1) rfl, by show 2 ≤ sizeLine; decide, fun W nW => ?_⟩⟩⟩
  exact q _ (.ref W) (.tup [.tup ((ns.map D.int).set (cell / 8 % (((ns.map V.int).length : Nat) : Int)).toNat bd), .int l]) (Same.trans s5 (Same.trans (sameNew nT) (sameNew nW))) (.tup (.of upd_same) (.cons (.tup (tupS (sameNew nW) (.of upd_same)) (dinSet (dinInts ns) (hbv _ _))) (.cons (.int l) .nil)))
    (sumNo3 (List.mem_iff_getElem?.mpr ⟨_, by rw [List.getElem?_set_self (by simpa using j0)]⟩) hno)

end

end LW

namespace LW
open PySem PySem.Spec PyProof.Rows L2
local macro_rules | `(tactic| walk_at "go1") => `(tactic| first
  | refine ⟨_, rfl, ?_⟩
  | refine ⟨_, _, rfl, rfl, ?_⟩
  | refine ⟨show (0 : Int) < _ from by omega, ?_⟩
  | refine ⟨show CMul _ _ from by first | exact .inl ⟨by omega, by omega⟩ | exact .inr ⟨by omega, by omega⟩, ?_⟩
  | refine ⟨show CDiv _ _ from ⟨by omega, by omega⟩, ?_⟩)
local macro_rules | `(tactic| walk_at "go") => `(tactic| repeat walk_at "go1")

section
variable {P : Program} {w : World} {K : PySem.W.Frag} {mg : Str → Option Value} {base : Heap}

def spBadR (K : PySem.W.Frag) : Sp := fun vs H Q _ => ∃ (cell : Int) (v : V) (d : D) (many r : Nat), vs = [.int cell, v, .int (many : Int)] ∧ 0 ≤ cell ∧ Din K H v d ∧ GRow many r d ∧ 1 ≤ many ∧ many ≤ 3 ∧
  ∀ (H' : Hp) (v' : V) (bd : D), Same H H' → Din K H' v' bd → Bad many bd → Q v' H'
theorem restLen {many : Nat} {k : Str} {r1 r2 : List D} (h1 : restOk many k r1 = true) (h2 : restOk many k r2 = true) : r1.length = r2.length := by
  have key : ∀ r : List D, restOk many k r = true → r.length = if k = "put" then 2 else if k = "say" then 1 else 3 := by
    intro r h
    unfold restOk at h
    split at h
    · rename_i e
      rw [if_pos e]
      split at h
      · rfl
      · cases h
    · rename_i e
      rw [if_neg e]
      split at h
      · rename_i e2
        rw [if_pos e2]
        split at h
        · rfl
        · cases h
      · rename_i e2
        rw [if_neg e2]
        split at h
        · split at h
          · rfl
          · cases h
        · split at h
          · split at h
            · rfl
            · cases h
          · cases h
  rw [key r1 h1, key r2 h2]
theorem cutLast {xs : List V} (h : 1 ≤ xs.length) : cutV xs none (some (-1)) = xs.take (xs.length - 1) := by
  show (xs.drop 0).take ((if (-1 : Int) < 0 then ((-1 : Int) + (xs.length : Int)).toNat else min (-1 : Int).toNat xs.length) - 0) = _
  rw [if_pos (by decide), List.drop_zero, Nat.sub_zero]
  congr 1
  omega
theorem inIL : inV (.str "say") [.str "if", .str "loop"] = false ∧ inV (.str "if") [.str "if", .str "loop"] = true ∧ inV (.str "loop") [.str "if", .str "loop"] = true := by decide +kernel
theorem restNo {many : Nat} {k : Str} {s : D} {r : List D} (h : k = "say" ∨ k = "if" ∨ k = "loop") (hs : sumOk many s = false) : restOk many k (s :: r) = false := by
  unfold restOk
  rcases h with rfl | rfl | rfl
  · rw [if_neg (fun e => kinds.2.2.2.2.2.2 e.symm), if_pos rfl]
    split
    · rename_i e
      cases e
      exact hs
    · rfl
  · rw [if_neg (fun e => kinds.1 e.symm), if_neg (fun e => kinds.2.2.1 e.symm), if_pos rfl]
    split
    · rename_i e
      cases e
      exact hs
    · rfl
  · rw [if_neg (fun e => kinds.2.1 e.symm), if_neg (fun e => kinds.2.2.2.1 e.symm), if_neg kinds.2.2.2.2.1, if_pos rfl]
    split
    · rename_i e
      cases e
      rw [hs]
      rfl
    · rfl
theorem goodNo {many : Nat} : (∀ r, good many r .lst = false) ∧ (∀ r, good many r .non = false) ∧ (∀ s r, good many r (.str s) = false) ∧ ∀ r, good many r (.tup [.non]) = false := by
  refine ⟨fun r => ?_, fun r => ?_, fun s r => ?_, fun r => ?_⟩ <;> cases r <;> simp [good, rowOk]
theorem pickIn {K : PySem.W.Frag} {H : Hp} {xs : List V} {i : Int} {p : D → Prop} (h0 : 0 ≤ i) (h1 : i < xs.length) (hx : ∀ v ∈ xs, ∃ d : D, Din K H v d ∧ p d) : ∃ v d, atI xs i = some v ∧ Din K H v d ∧ p d := by
  obtain ⟨j, rfl⟩ : ∃ j : Nat, i = (j : Int) := ⟨i.toNat, by omega⟩
  have hj : j < xs.length := by omega
  obtain ⟨d, h2, h3⟩ := hx xs[j] (List.getElem_mem _)
  exact ⟨xs[j], d, atI_nat (List.getElem?_eq_getElem hj), h2, h3⟩
theorem iteF' {b : Bool} {A B : Prop} (e : b = false) (h : B) : if b = true then A else B := by rw [e]; exact iteF h
theorem iteT' {b : Bool} {A B : Prop} (e : b = true) (h : A) : if b = true then A else B := by rw [e]; exact iteT h
abbrev s__law_bad_row : Stmt := topS 38
theorem sc__law_bad_row : FnScope ["_law_cell", "_law_row_here", "_law_many", "_law_way", "_law_parts", "_law_wrong"] ["_law_cell", "_law_row_here", "_law_many"] (defScope s__law_bad_row) := ⟨rfl, rfl, rfl, by decide +kernel, rfl, by decide +kernel, by decide +kernel⟩

theorem ok__law_bad_row {f : Addr} {fd : FuncData} {k : Nat} (F : Fun K "_law_bad_row" "_law_bad_row" s__law_bad_row f fd) (B : Bl mg) (c__law_bad_sum : C8.Cal P w K mg base k "_law_bad_sum" (spBadS K) []) : FnOk P w K mg base CX0 (k + 1) f fd ["_law_cell", "_law_row_here", "_law_many"] (spBadR K) := by
  refine F.ok sc__law_bad_row (fun vs H Q E h => ?_) (fun cdv A outer s H vs Q E hr h => ?_)
  · obtain ⟨cell, v, d, many, r, rfl, _⟩ := h
    rfl
  obtain ⟨cell, v, d, many, r, rfl, c0, hd, hg, m1, m3, q⟩ := h
  refine ⟨_, (pss_cons (ps_set (i := 3) sc__law_bad_row.nd rfl (.inl rfl) (pe_op op_mod (pv 0) pe_int))
    (pss_cons (ps_set (i := 4) sc__law_bad_row.nd rfl (.inl rfl) (pe_callTy (kList (K := K) rfl) (by rfl) B.list (by decide +kernel) (pa_cons (pv 1) pa_nil)))
    (pss_cons (ps_if (pt_cmpR op_eq (pv 3) pe_int (nomark _))
      (pss_one (ps_ret (pv 4)))
      pss_nil)
    (pss_cons (ps_if (pt_cmpR op_eq (pv 3) pe_int (nomark _))
      (pss_one (ps_ret (pe_callTy (kTup (K := K) rfl) (by rfl) B.tuple (by decide +kernel) (pa_cons (pe_slice (kSlL (K := K) rfl) (pv 4) po_none (po_some (pe_un un_neg pe_int))) pa_nil))))
      pss_nil)
    (pss_cons (ps_if (pt_cmpR op_eq (pv 3) pe_int (nomark _))
      (pss_one (ps_ret (pe_callTy (kTup (K := K) rfl) (by rfl) B.tuple (by decide +kernel) (pa_cons (pe_op op_cat (pv 4) (pe_lst (pa_cons (pe_tup pa_nil) pa_nil))) pa_nil))))
      pss_nil)
    (pss_cons (ps_if (pt_cmpR op_eq (pv 3) pe_int (nomark _))
      (pss_one (ps_ret (pe_op (kCatT (K := K) rfl) (pe_tup (pa_cons (pe_ix (kIxL (K := K) rfl) (pe_lst (pa_cons pe_str (pa_cons pe_str (pa_cons pe_non (pa_cons pe_bl (pa_cons pe_int (pa_cons (pe_lst pa_nil) (pa_cons pe_dnewK (pa_cons (pe_lst (pa_cons (pe_ix (kIxT (K := K) rfl) (pv 1) pe_int (fun _ _ => rfl)) pa_nil)) pa_nil))))))))) (pe_op op_mod (pe_op op_fdiv (pv 0) pe_int) pe_int) (fun _ _ => rfl)) pa_nil)) (pe_slice (kSlT (K := K) rfl) (pv 1) (po_some pe_int) po_none))))
      pss_nil)
    (pss_cons (ps_if (PW.pt (pw_and (pt_cmpR op_eq (pe_ix (kIxT (K := K) rfl) (pv 1) pe_int (fun _ _ => rfl)) pe_str (nomark _)) (pw_and1 (pt_cmpR op_eq (pv 3) pe_int (nomark _)))))
      (pss_one (ps_ret (pe_tup (pa_cons pe_str (pa_cons (pe_ix (kIxL (K := K) rfl) (pe_lst (pa_cons (pe_un un_neg pe_int) (pa_cons (pv 2) (pa_cons pe_bl (pa_cons pe_non (pa_cons pe_str pa_nil)))))) (pe_op op_mod (pe_op op_fdiv (pv 0) pe_int) pe_int) (fun _ _ => rfl)) (pa_cons (pe_ix (kIxT (K := K) rfl) (pv 1) pe_int (fun _ _ => rfl)) pa_nil))))))
      pss_nil)
    (pss_cons (ps_if (pt_cmpR op_eq (pe_ix (kIxT (K := K) rfl) (pv 1) pe_int (fun _ _ => rfl)) pe_str (nomark _))
      (pss_one (ps_ret (pe_tup (pa_cons pe_str (pa_cons (pe_ix (kIxT (K := K) rfl) (pv 1) pe_int (fun _ _ => rfl)) (pa_cons (C8.pe_c c__law_bad_sum hr (Nat.le_refl _) (by rfl) (pa_cons (pe_op op_fdiv (pv 0) pe_int) (pa_cons (pe_ix (kIxT (K := K) rfl) (pv 1) pe_int (fun _ _ => rfl)) pa_nil))) pa_nil))))))
      pss_nil)
    (pss_cons (ps_if (PW.pt (pw_and (pt_cmpR op_eq (pe_ix (kIxT (K := K) rfl) (pv 1) pe_int (fun _ _ => rfl)) pe_str (nomark _)) (pw_and1 (pt_cmpR op_eq (pv 3) pe_int (nomark _)))))
      (pss_cons (ps_set (i := 5) sc__law_bad_row.nd rfl (.inl rfl) (pe_tup (pa_cons (C8.pe_c c__law_bad_sum hr (Nat.le_refl _) (by rfl) (pa_cons (pe_op op_fdiv (pv 0) pe_int) (pa_cons (pe_ix (kIxT (K := K) rfl) (pv 1) pe_int (fun _ _ => rfl)) pa_nil))) pa_nil)))
      (pss_one (ps_ret (pe_tup (pa_cons pe_str (pa_cons (pe_ix (kIxT (K := K) rfl) (pv 1) pe_int (fun _ _ => rfl)) (pa_cons (pe_ix (kIxL (K := K) rfl) (pe_lst (pa_cons (pe_callTy (kList (K := K) rfl) (by rfl) B.list (by decide +kernel) (pa_cons (pe_ix (kIxT (K := K) rfl) (pv 1) pe_int (fun _ _ => rfl)) pa_nil)) (pa_cons (pe_op (kRepA (K := K) rfl) (pe_tup (pa_cons (pe_ix (kIxT (K := K) rfl) (pv 1) pe_int (fun _ _ => rfl)) pa_nil)) pe_int) (pa_cons (pv 5) (pa_cons pe_non pa_nil))))) (pe_op op_mod (pe_op op_fdiv (pv 0) pe_int) pe_int) (fun _ _ => rfl)) (pa_cons (pe_ix (kIxT (K := K) rfl) (pv 1) pe_int (fun _ _ => rfl)) pa_nil))))))))
      pss_nil)
    (pss_cons (ps_if (PW.pt (pw_and (pt_cmpR (kIn (K := K) rfl) (pe_ix (kIxT (K := K) rfl) (pv 1) pe_int (fun _ _ => rfl)) (pe_tup (pa_cons pe_str (pa_cons pe_str pa_nil))) (by rfl)) (pw_and1 (pt_cmpR op_eq (pe_op op_mod (pe_op op_fdiv (pv 0) pe_int) pe_int) pe_int (nomark _)))))
      (pss_one (ps_ret (pe_op (kCatT (K := K) rfl) (pe_slice (kSlT (K := K) rfl) (pv 1) po_none (po_some pe_int)) (pe_tup (pa_cons (pe_ix (kIxL (K := K) rfl) (pe_lst (pa_cons (pe_callTy (kList (K := K) rfl) (by rfl) B.list (by decide +kernel) (pa_cons (pe_ix (kIxT (K := K) rfl) (pv 1) pe_int (fun _ _ => rfl)) pa_nil)) (pa_cons pe_non (pa_cons pe_str (pa_cons (pe_tup (pa_cons pe_non pa_nil)) pa_nil))))) (pe_op op_mod (pe_op op_fdiv (pv 0) pe_int) pe_int) (fun _ _ => rfl)) pa_nil)))))
      pss_nil)
    (pss_one (ps_ret (pe_op (kCatT (K := K) rfl) (pe_tup (pa_cons (pe_ix (kIxT (K := K) rfl) (pv 1) pe_int (fun _ _ => rfl)) (pa_cons (C8.pe_c c__law_bad_sum hr (Nat.le_refl _) (by rfl) (pa_cons (pe_op op_fdiv (pv 0) pe_int) (pa_cons (pe_ix (kIxT (K := K) rfl) (pv 1) pe_int (fun _ _ => rfl)) pa_nil))) pa_nil))) (pe_slice (kSlT (K := K) rfl) (pv 1) (po_some pe_int) po_none)))))))))))))), ?_⟩
  have dv : ∀ z : Int, CDiv z 6 ∧ CDiv z 48 ∧ CDiv z 18 := fun z => ⟨⟨by decide, by decide⟩, ⟨by decide, by decide⟩, ⟨by decide, by decide⟩⟩
  obtain ⟨kd, rest, rfl, hro, hne, hle3⟩ : ∃ kd rest, d = .tup (.str kd :: rest) ∧ restOk many kd rest = true ∧ 1 ≤ rest.length ∧ rest.length ≤ 3 := by
    have h1 := hg.1
    rcases rowKinds h1 with ⟨b, s, rfl⟩ | ⟨w, rfl⟩ | ⟨w, a, b, rfl⟩ | ⟨w, ws, b, rfl⟩
    · exact ⟨_, _, rfl, h1, by simp, by simp⟩
    · exact ⟨_, _, rfl, h1, by simp, by simp⟩
    · exact ⟨_, _, rfl, h1, by simp, by simp⟩
    · exact ⟨_, _, rfl, h1, by simp, by simp⟩
  have hd00 := hd
  cases hd with
  | @tup a _ _ hR hRA =>
  have hRA0 := hRA
  cases hRA with
  | @cons _ xr _ _ h0 hA1 =>
  cases h0
  have lx := hA1.len
  refine ⟨_, rfl, _, _, rfl, rfl, (show (0 : Int) < 6 by decide), ?_⟩
  refine ⟨_, rfl, _, _, rfl, .inr hR, fun L nL => ?_⟩
  have s1 : Same H (upd H L (.lst (.str kd :: xr))) := sameNew nL
  have hL : upd H L (.lst (.str kd :: xr)) L = some (.lst (.str kd :: xr)) := upd_same
  generalize upd H L (.lst (.str kd :: xr)) = H1 at *
  have hR1 := tupS s1 hR
  have hA0 := dinASame s1 hRA0
  have hAr := dinASame s1 hA1
  refine ⟨_, rfl, rfl, _, rfl, ?_⟩
  refine yesDec (fun c => ?_) (fun c => ?_)
  · exact ⟨_, rfl, q _ (.ref L) .lst s1 (.lst (.of hL)) (badNot rfl)⟩
  refine ⟨_, rfl, rfl, _, rfl, ?_⟩
  refine yesDec (fun c1 => ?_) (fun c1 => ?_)
  · have e : (V.str kd :: xr).take ((V.str kd :: xr).length - 1) = .str kd :: xr.take (xr.length - 1) := by
      rw [List.length_cons, Nat.add_sub_cancel]
      cases xr with
      | nil => simp at lx; omega
      | cons x t => simp
    refine ⟨_, rfl, _, rfl, _, rfl, _, _, rfl, .of hL, fun W nW => ?_⟩
    rw [cutLast (by simp), e]
    refine ⟨_, _, rfl, .inl ⟨.of upd_same, fun T nT => ?_⟩⟩
    have sT := Same.trans (sameNew (o := .lst (.str kd :: xr.take (xr.length - 1))) nW) (sameNew (o := .tup (.str kd :: xr.take (xr.length - 1))) nT)
    refine q _ (.ref T) (.tup (.str kd :: rest.take (xr.length - 1))) (Same.trans s1 sT) (.tup (.of upd_same) (.cons (.str _) (dinTake _ (dinASame sT hAr)))) (badNot ?_)
    refine Bool.eq_false_iff.mpr fun z => ?_
    have := restLen (show restOk many kd (rest.take (xr.length - 1)) = true from z) hro
    rw [List.length_take] at this
    omega
  refine ⟨_, rfl, rfl, _, rfl, ?_⟩
  refine yesDec (fun c2 => ?_) (fun c2 => ?_)
  · refine ⟨_, rfl, by show 0 ≤ sizeLine; decide, fun Z nZ => ⟨by show 1 ≤ sizeLine; decide, fun W nW => ⟨L, W, _, _, rfl, rfl, (Same.trans (sameNew nZ) (sameNew nW)) _ _ hL, upd_same, ?_, fun Y nY => ?_⟩⟩⟩
    · have : (100 : Nat) ≤ sizeLine := by decide
      simp
      omega
    refine ⟨_, _, rfl, .inl ⟨.of upd_same, fun T nT => ?_⟩⟩
    have sY := Same.trans (sameNew (o := .lst [.ref Z]) nW) (sameNew (o := .lst (.str kd :: xr ++ [.ref Z])) nY)
    have sT := Same.trans sY (sameNew (o := .tup (.str kd :: xr ++ [.ref Z])) nT)
    have sZ := Same.trans (sameNew (o := .tup []) nZ) sT
    refine q _ (.ref T) (.tup (.str kd :: (rest ++ [.tup []]))) (Same.trans s1 sZ) (.tup (.of upd_same) (.cons (.str _) (dinApp (dinASame sZ hAr) (.cons (.tup (tupS sT (.of upd_same)) .nil) .nil)))) (badNot ?_)
    refine Bool.eq_false_iff.mpr fun z => ?_
    have := restLen (show restOk many kd (rest ++ [.tup []]) = true from z) hro
    simp at this
  refine ⟨_, rfl, rfl, _, rfl, ?_⟩
  refine yesDec (fun c3 => ?_) (fun c3 => ?_)
  · refine ⟨by show 0 ≤ sizeLine; decide, fun Z nZ => fun Dd nD => ⟨_, rfl, _, _, _, _, rfl, rfl, tupS (Same.trans (sameNew nZ) (sameNew nD)) hR1, atI_nat (j := 0) rfl, by show 1 ≤ sizeLine; decide, fun C nC => ⟨by show 8 ≤ sizeLine; decide, fun U nU => ?_⟩⟩⟩
    have sC := Same.trans (sameNew (o := .lst [.str kd]) nC) (sameNew (o := .lst [.str "puts", .str "", .non, .bl true, .int 0, .ref Z, .ref Dd, .ref C]) nU)
    have sD := Same.trans (sameNew (o := .dK []) nD) sC
    have sZ := Same.trans (sameNew (o := .lst []) nZ) sD
    obtain ⟨bv, bd, ebv, hbv, hno⟩ := pickIn (K := K) (H := upd (upd (upd (upd H1 Z (.lst [])) Dd (.dK [])) C (.lst [.str kd])) U (.lst [.str "puts", .str "", .non, .bl true, .int 0, .ref Z, .ref Dd, .ref C])) (xs := [.str "puts", .str "", .non, .bl true, .int 0, .ref Z, .ref Dd, .ref C]) (i := cell / 6 % 8) (p := fun d => ∀ r, rowOk many (.tup (d :: r)) = false) (by omega) (by show cell / 6 % 8 < 8; omega) (by
      intro v hv
      simp only [List.mem_cons, List.not_mem_nil, or_false] at hv
      rcases hv with rfl | rfl | rfl | rfl | rfl | rfl | rfl | rfl
      · exact ⟨.str _, .str _, fun r => restOk_no (by decide +kernel)⟩
      · exact ⟨.str _, .str _, fun r => restOk_no (by decide +kernel)⟩
      · exact ⟨.non, .non, fun r => rfl⟩
      · exact ⟨.bl _, .bl _, fun r => rfl⟩
      · exact ⟨.int _, .int _, fun r => rfl⟩
      · exact ⟨.lst, .lst (.of (sD _ _ upd_same)), fun r => rfl⟩
      · exact ⟨.dct, .dct (sC _ _ upd_same), fun r => rfl⟩
      · exact ⟨.lst, .lst (.of (sameNew nU _ _ upd_same)), fun r => rfl⟩)
    refine ⟨_, rfl, _, _, rfl, rfl, (dv _).1, _, _, rfl, rfl, (show (0 : Int) < 8 by decide), _, _, _, _, rfl, rfl, .of upd_same, ebv, by show 1 ≤ sizeLine; decide, fun T nT => ?_⟩
    refine ⟨_, rfl, _, rfl, slUseN (tupS (Same.trans sZ (sameNew nT)) hR1) fun r2 H2 s2 h2 => ?_⟩
    rw [show (1 : Int) = ((1 : Nat) : Int) from rfl, cutDrop] at h2
    refine catUse (tupS s2 (.of upd_same)) h2 (by simp; omega) fun r3 H3 s3 h3 => ?_
    have s23 := Same.trans (sameNew (o := .tup [bv]) nT) (Same.trans s2 s3)
    exact q _ (.ref r3) (.tup (bd :: rest)) (Same.trans s1 (Same.trans sZ s23)) (.tup h3 (.cons (dinSame s23 hbv) (dinASame (Same.trans sZ s23) hAr))) (badNot (hno _))
  obtain ⟨k1, k2, k3, k4, k5, k6, k7⟩ := kinds
  have hfin : ∀ (H2 : Hp) (kk : Str) (s : D) (rs : List D) (y : V) (ys : List V) (Q2 : VK), True := fun _ _ _ _ _ _ _ => trivial
  clear hfin
  have c6 : 0 ≤ cell / 6 := by omega
  rcases rowKinds hg.1 with ⟨b', s', e⟩ | ⟨w', e⟩ | ⟨w', a', b', e⟩ | ⟨w', ws', b', e⟩
  · cases e
    cases hAr with
    | @cons y1 _ _ _ hb' hA3 =>
    cases hA3 with
    | @cons y2 _ _ _ hs' hA4 =>
    cases hA4
    rw [rest_put, Bool.and_eq_true] at hro
    obtain ⟨sm, rfl, hw⟩ := sumInv hro.2
    refine ⟨_, rfl, _, _, _, _, rfl, rfl, hR1, atI_nat (j := 0) rfl, rfl, _, rfl, ?_⟩
    rw [decide_eq_true rfl]
    refine iteT ⟨_, rfl, rfl, _, rfl, ?_⟩
    refine yesDec (fun c4 => ?_) (fun c4 => ?_)
    · refine ⟨_, rfl, _, rfl, by show 5 ≤ sizeLine; decide, fun U nU => ?_⟩
      obtain ⟨bv, bd, ebv, hbv, hno⟩ := pickBad (xs := [.int (-1), .int (many : Int), .bl true, .non, .str "0"]) (i := cell / 6 % 5) (p := fun d => fromTo d 0 ((many : Int) - 1)) (by omega) (by show cell / 6 % 5 < 5; omega) (by
        intro v hv
        simp only [List.mem_cons, List.not_mem_nil, or_false] at hv
        rcases hv with rfl | rfl | rfl | rfl | rfl
        · exact ⟨.int _, fun _ _ => .int _, by simp [fromTo]⟩
        · exact ⟨.int _, fun _ _ => .int _, by simp [fromTo]; omega⟩
        · exact ⟨.bl _, fun _ _ => .bl _, rfl⟩
        · exact ⟨.non, fun _ _ => .non, rfl⟩
        · exact ⟨.str _, fun _ _ => .str _, rfl⟩)
      refine ⟨_, rfl, _, _, rfl, rfl, (dv _).1, _, _, rfl, rfl, (show (0 : Int) < 5 by decide), _, _, _, _, rfl, rfl, .of upd_same, ebv, ?_⟩
      refine ⟨_, rfl, _, _, _, _, rfl, rfl, tupS (sameNew nU) hR1, atI_nat (j := 2) rfl, by show 3 ≤ sizeLine; decide, fun T nT => ?_⟩
      exact q _ (.ref T) (.tup [.str "put", bd, dSm sm]) (Same.trans s1 (Same.trans (sameNew nU) (sameNew nT))) (.tup (.of upd_same) (.cons (.str _) (.cons (hbv _ _) (.cons (dinSame (Same.trans (sameNew nU) (sameNew nT)) hs') .nil)))) (badNot (by show restOk many "put" [bd, dSm sm] = false; rw [rest_put, hno]; rfl))
    · refine ⟨_, rfl, _, _, _, _, rfl, rfl, hR1, atI_nat (j := 0) rfl, rfl, _, rfl, ?_⟩
      rw [decide_eq_true rfl]
      refine iteT ?_
      refine ⟨_, rfl, _, _, _, _, rfl, rfl, hR1, atI_nat (j := 1) rfl, _, rfl, _, _, rfl, rfl, (dv _).1, _, rfl, _, _, _, _, rfl, rfl, hR1, atI_nat (j := 2) rfl, ?_⟩
      refine ⟨_, _, sm, many, rfl, c6, sumDin hs', hw, m1, m3, fun H2 v2 bd s2 hd2 hno => ⟨by show 3 ≤ sizeLine; decide, fun T nT => ?_⟩⟩
      exact q _ (.ref T) (.tup [.str "put", b', bd]) (Same.trans s1 (Same.trans s2 (sameNew nT))) (.tup (.of upd_same) (.cons (.str _) (.cons (dinSame (Same.trans s2 (sameNew nT)) hb') (.cons (dinSame (sameNew nT) hd2) .nil)))) (badNot (by show restOk many "put" [b', bd] = false; rw [rest_put, hno, Bool.and_false]))
  · cases e
    cases hAr with
    | @cons y1 _ _ _ hs' hA3 =>
    cases hA3
    rw [rest_say] at hro
    obtain ⟨sm, rfl, hw⟩ := sumInv hro
    refine ⟨_, rfl, _, _, _, _, rfl, rfl, hR1, atI_nat (j := 0) rfl, rfl, _, rfl, ?_⟩
    rw [decS (fun e => k7 e.symm)]
    refine iteF ?_
    refine ⟨_, rfl, _, _, _, _, rfl, rfl, hR1, atI_nat (j := 0) rfl, rfl, _, rfl, ?_⟩
    rw [decS (fun e => k7 e.symm)]
    refine iteF ?_
    refine ⟨_, rfl, _, _, _, _, rfl, rfl, hR1, atI_nat (j := 0) rfl, rfl, _, rfl, ?_⟩
    rw [decS k4]
    refine iteF ?_
    refine ⟨_, rfl, _, _, _, _, rfl, rfl, hR1, atI_nat (j := 0) rfl, by show 2 ≤ sizeLine; decide, fun U nU => ⟨_, _, rfl, .inr (.of upd_same), rfl, rfl, _, rfl, ?_⟩⟩
    refine iteF' inIL.1 ?_
    refine ⟨_, rfl, _, _, _, _, rfl, rfl, tupS (sameNew nU) hR1, atI_nat (j := 0) rfl, _, rfl, _, _, rfl, rfl, (dv _).1, _, rfl, _, _, _, _, rfl, rfl, tupS (sameNew nU) hR1, atI_nat (j := 1) rfl, ?_⟩
    refine ⟨_, _, sm, many, rfl, c6, SumIn.mono (sameNew nU) (sumDin hs'), hw, m1, m3, fun H2 v2 bd s2 hd2 hno => ⟨by show 2 ≤ sizeLine; decide, fun T nT => ?_⟩⟩
    refine ⟨_, rfl, _, rfl, slUseN (tupS (Same.trans (Same.trans (sameNew nU) s2) (sameNew nT)) hR1) fun r3 H3 s3 h3 => ?_⟩
    rw [show (2 : Int) = ((2 : Nat) : Int) from rfl, cutDrop] at h3
    refine catUse (tupS s3 (.of upd_same)) h3 (by show 2 + _ ≤ 100000; simp) fun r4 H4 s4 h4 => ?_
    have sT := Same.trans (sameNew (o := .tup [.str "say", v2]) nT) (Same.trans s3 s4)
    have sA := Same.trans (Same.trans (sameNew (o := .tup [.str "if", .str "loop"]) nU) s2) sT
    exact q _ (.ref r4) (.tup (.str "say" :: bd :: [])) (Same.trans s1 sA) (.tup h4 (.cons (.str _) (.cons (dinSame sT hd2) .nil))) (badNot (by show restOk many "say" (bd :: []) = false; exact restNo (.inl rfl) hno))
  · cases e
    cases hAr with
    | @cons y1 _ _ _ hs' hA3 =>
    cases hA3 with
    | @cons y2 _ _ _ ha' hA4 =>
    cases hA4 with
    | @cons y3 _ _ _ hb' hA5 =>
    cases hA5
    rw [rest_if] at hro
    obtain ⟨sm, rfl, hw⟩ := sumInv hro
    obtain ⟨as, bs, rfl, rfl⟩ : ∃ as bs, a' = .tup as ∧ b' = .tup bs := by
      rcases gKinds hg with ⟨_, _, e⟩ | ⟨_, e⟩ | ⟨_, _, as, bs, _, e, _⟩ | ⟨_, _, _, _, _, e, _⟩
      · injection e with e; injection e with e _; injection e with e; exact absurd e.symm k1
      · cases e
      · injection e with e; injection e with _ e; injection e with _ e; injection e with e1 e; injection e with e2 _; exact ⟨as, bs, e1, e2⟩
      · injection e with e; injection e with e _; injection e with e; exact absurd e k6
    cases hb' with
    | @tup p3 x3 _ hbT hbA =>
    have hb' : Din K H1 (.ref p3) (.tup bs) := .tup hbT hbA
    refine ⟨_, rfl, _, _, _, _, rfl, rfl, hR1, atI_nat (j := 0) rfl, rfl, _, rfl, ?_⟩
    rw [decS (fun e => k1 e.symm)]
    refine iteF ?_
    refine ⟨_, rfl, _, _, _, _, rfl, rfl, hR1, atI_nat (j := 0) rfl, rfl, _, rfl, ?_⟩
    rw [decS (fun e => k1 e.symm)]
    refine iteF ?_
    refine ⟨_, rfl, _, _, _, _, rfl, rfl, hR1, atI_nat (j := 0) rfl, rfl, _, rfl, ?_⟩
    rw [decS k6]
    refine iteF ?_
    refine ⟨_, rfl, _, _, _, _, rfl, rfl, hR1, atI_nat (j := 0) rfl, by show 2 ≤ sizeLine; decide, fun U nU => ⟨_, _, rfl, .inr (.of upd_same), rfl, rfl, _, rfl, ?_⟩⟩
    refine iteT' inIL.2.1 ?_
    refine ⟨_, rfl, _, _, rfl, rfl, (dv _).1, _, _, rfl, rfl, (show (0 : Int) < 3 by decide), rfl, _, rfl, ?_⟩
    refine yesDec (fun c5 => ?_) (fun c5 => ?_)
    · refine ⟨_, rfl, _, rfl, slUse (tupS (sameNew nU) hR1) fun r2 H2 s2 h2 => ?_⟩
      rw [show (3 : Int) = ((3 : Nat) : Int) from rfl, cutTake] at h2
      have s12 := Same.trans (sameNew (o := .tup [.str "if", .str "loop"]) nU) s2
      refine ⟨_, rfl, _, _, _, _, rfl, rfl, tupS s12 hR1, atI_nat (j := 3) rfl, _, _, rfl, .inr (tupS s12 hbT), fun A nA => ⟨by show 1 ≤ sizeLine; decide, fun C nC => ⟨by show 4 ≤ sizeLine; decide, fun U2 nU2 => ?_⟩⟩⟩
      have sC := sameNew (o := .lst [.ref A, .non, .str "", .ref C]) nU2
      have sA := Same.trans (sameNew (o := .tup [.non]) nC) sC
      have sL := Same.trans (sameNew (o := .lst _) nA) sA
      obtain ⟨bv, bd, ebv, hbv, hno⟩ := pickIn (K := K) (xs := [.ref A, .non, .str "", .ref C]) (i := cell / 18 % 4) (p := fun d => ∀ r, good many r d = false) (by omega) (by show cell / 18 % 4 < 4; omega) (show ∀ v ∈ [V.ref A, .non, .str "", .ref C], ∃ d : D, Din K (upd (upd (upd H2 A _) C (.tup [.non])) U2 (.lst [.ref A, .non, .str "", .ref C])) v d ∧ ∀ r, good many r d = false by
        intro v hv
        simp only [List.mem_cons, List.not_mem_nil, or_false] at hv
        rcases hv with rfl | rfl | rfl | rfl
        · exact ⟨.lst, .lst (.of (sA _ _ upd_same)), goodNo.1⟩
        · exact ⟨.non, .non, goodNo.2.1⟩
        · exact ⟨.str _, .str _, goodNo.2.2.1 _⟩
        · exact ⟨.tup [.non], .tup (tupS sC (.of upd_same)) (.cons .non .nil), goodNo.2.2.2⟩)
      refine ⟨_, rfl, _, _, rfl, rfl, (dv _).2.2, _, _, rfl, rfl, (show (0 : Int) < 4 by decide), _, _, _, _, rfl, rfl, .of upd_same, ebv, by show 1 ≤ sizeLine; decide, fun T nT => ?_⟩
      refine catUse (tupS (Same.trans sL (sameNew nT)) h2) (.of upd_same) (by show _ + 1 ≤ 100000; simp) fun r4 H4 s4 h4 => ?_
      have sT := Same.trans (sameNew (o := .tup [bv]) nT) s4
      have sX := Same.trans s12 (Same.trans sL sT)
      exact q _ (.ref r4) (.tup [.str "if", dSm sm, .tup as, bd]) (Same.trans s1 sX) (.tup h4 (.cons (.str _) (.cons (dinSame sX hs') (.cons (dinSame sX ha') (.cons (dinSame sT hbv) .nil))))) (badIn (x := bd) (by simp [inner, k5]) hno)
    · skip
      refine ⟨_, rfl, _, _, _, _, rfl, rfl, tupS (sameNew nU) hR1, atI_nat (j := 0) rfl, _, rfl, _, _, rfl, rfl, (dv _).1, _, rfl, _, _, _, _, rfl, rfl, tupS (sameNew nU) hR1, atI_nat (j := 1) rfl, ?_⟩
      refine ⟨_, _, sm, many, rfl, c6, SumIn.mono (sameNew nU) (sumDin hs'), hw, m1, m3, fun H2 v2 bd s2 hd2 hno => ⟨by show 2 ≤ sizeLine; decide, fun T nT => ?_⟩⟩
      refine ⟨_, rfl, _, rfl, slUseN (tupS (Same.trans (Same.trans (sameNew nU) s2) (sameNew nT)) hR1) fun r3 H3 s3 h3 => ?_⟩
      rw [show (2 : Int) = ((2 : Nat) : Int) from rfl, cutDrop] at h3
      refine catUse (tupS s3 (.of upd_same)) h3 (by show 2 + _ ≤ 100000; simp) fun r4 H4 s4 h4 => ?_
      have sT := Same.trans (sameNew (o := .tup [.str "if", v2]) nT) (Same.trans s3 s4)
      have sA := Same.trans (Same.trans (sameNew (o := .tup [.str "if", .str "loop"]) nU) s2) sT
      exact q _ (.ref r4) (.tup (.str "if" :: bd :: [.tup as, .tup bs])) (Same.trans s1 sA) (.tup h4 (.cons (.str _) (.cons (dinSame sT hd2) (.cons (dinSame sA ha') (.cons (dinSame sA hb') .nil))))) (badNot (by show restOk many "if" (bd :: [.tup as, .tup bs]) = false; exact restNo (.inr (.inl rfl)) hno))
  · cases e
    cases hAr with
    | @cons y1 _ _ _ hs' hA3 =>
    cases hA3 with
    | @cons y2 _ _ _ ha' hA4 =>
    cases hA4 with
    | @cons y3 _ _ _ hb' hA5 =>
    cases hA5
    rw [rest_loop, Bool.and_eq_true] at hro
    obtain ⟨sm, rfl, hw⟩ := sumInv hro.1
    obtain ⟨as, rfl⟩ : ∃ as, ws' = .tup as := by
      have := hro.2
      cases ws' with
      | tup as => exact ⟨as, rfl⟩
      | _ => cases this
    obtain ⟨bs, rfl⟩ : ∃ bs, b' = .tup bs := by
      rcases gKinds hg with ⟨_, _, e⟩ | ⟨_, e⟩ | ⟨_, _, as, bs, _, e, _⟩ | ⟨_, _, _, bs, _, e, _⟩
      · cases e
      · cases e
      · injection e with e; injection e with e _; injection e with e; exact absurd e k5
      · injection e with e; injection e with _ e; injection e with _ e; injection e with e1 e; injection e with e2 _; exact ⟨bs, e2⟩
    cases ha' with
    | @tup p2 x2 _ haT haA =>
    have ha' : Din K H1 (.ref p2) (.tup as) := .tup haT haA
    cases hb' with
    | @tup p3 x3 _ hbT hbA =>
    have hb' : Din K H1 (.ref p3) (.tup bs) := .tup hbT hbA
    refine ⟨_, rfl, _, _, _, _, rfl, rfl, hR1, atI_nat (j := 0) rfl, rfl, _, rfl, ?_⟩
    rw [decS (fun e => k2 e.symm)]
    refine iteF ?_
    refine ⟨_, rfl, _, _, _, _, rfl, rfl, hR1, atI_nat (j := 0) rfl, rfl, _, rfl, ?_⟩
    rw [decS (fun e => k2 e.symm)]
    refine iteF ?_
    refine ⟨_, rfl, _, _, _, _, rfl, rfl, hR1, atI_nat (j := 0) rfl, rfl, _, rfl, ?_⟩
    rw [decide_eq_true rfl]
    refine iteT ⟨_, rfl, rfl, _, rfl, ?_⟩
    refine yesDec (fun c4 => ?_) (fun c4 => ?_)
    · refine ⟨_, rfl, _, _, rfl, rfl, (dv _).1, _, rfl, _, _, _, _, rfl, rfl, hR1, atI_nat (j := 1) rfl, ?_⟩
      refine ⟨_, _, sm, many, rfl, c6, sumDin hs', hw, m1, m3, fun H2 v2 wd s2 hd2 hnw => ⟨by show 1 ≤ sizeLine; decide, fun T nT => ?_⟩⟩
      have s12 := Same.trans s2 (sameNew (o := .tup [v2]) nT)
      refine ⟨_, rfl, _, _, _, _, rfl, rfl, tupS s12 hR1, atI_nat (j := 1) rfl, _, rfl, _, _, _, _, rfl, rfl, tupS s12 hR1, atI_nat (j := 2) rfl, _, _, rfl, .inr (tupS s12 haT), fun A nA => ?_⟩
      have s13 := Same.trans s12 (sameNew (o := .lst x2) nA)
      refine ⟨_, rfl, _, _, _, _, rfl, rfl, tupS s13 hR1, atI_nat (j := 1) rfl, by show 1 ≤ sizeLine; decide, fun W nW => repUseC (n := 4) (.of upd_same) (by decide) (by decide) fun r4 H4 s4 h4 => ?_⟩
      refine ⟨_, rfl, by show 4 ≤ sizeLine; decide, fun U nU => ?_⟩
      have sW := Same.trans (sameNew (o := .tup [y1]) nW) (Same.trans s4 (sameNew (o := .lst [.ref A, .ref r4, .ref T, .non]) nU))
      have sA := Same.trans (sameNew (o := .lst x2) nA) sW
      have s1U := Same.trans s12 sA
      have rep4 : ∀ {H : Hp}, Din K H y1 (dSm sm) → DinA K H (List.replicate 4 y1) [dSm sm, dSm sm, dSm sm, dSm sm] := fun h => .cons h (.cons h (.cons h (.cons h .nil)))
      obtain ⟨bv, bd, ebv, hbv, hno⟩ := pickIn (K := K) (xs := [.ref A, .ref r4, .ref T, .non]) (i := cell / 48 % 4) (p := fun d => wordsOk many d = false) (by omega) (by show cell / 48 % 4 < 4; omega) (show ∀ v ∈ [V.ref A, .ref r4, .ref T, .non], ∃ d : D, Din K (upd H4 U (.lst [.ref A, .ref r4, .ref T, .non])) v d ∧ wordsOk many d = false by
        intro v hv
        simp only [List.mem_cons, List.not_mem_nil, or_false] at hv
        rcases hv with rfl | rfl | rfl | rfl
        · exact ⟨.lst, .lst (.of (sW _ _ upd_same)), rfl⟩
        · exact ⟨_, .tup (tupS (sameNew nU) h4) (rep4 (dinSame s1U hs')), by simp [wordsOk]⟩
        · exact ⟨.tup [wd], .tup (tupS sA (.of upd_same)) (.cons (dinSame (Same.trans (sameNew nT) sA) hd2) .nil), by simp [wordsOk, hnw]⟩
        · exact ⟨.non, .non, rfl⟩)
      refine ⟨_, rfl, _, _, rfl, rfl, (dv _).2.1, _, _, rfl, rfl, (show (0 : Int) < 4 by decide), _, _, _, _, rfl, rfl, .of upd_same, ebv, ?_⟩
      refine ⟨_, rfl, _, _, _, _, rfl, rfl, tupS s1U hR1, atI_nat (j := 3) rfl, by show 4 ≤ sizeLine; decide, fun X nX => ?_⟩
      have sX := Same.trans s1U (sameNew (o := .tup [.str "loop", y1, bv, .ref p3]) nX)
      exact q _ (.ref X) (.tup [.str "loop", dSm sm, bd, .tup bs]) (Same.trans s1 sX) (.tup (.of upd_same) (.cons (.str _) (.cons (dinSame sX hs') (.cons (dinSame (sameNew nX) hbv) (.cons (dinSame sX hb') .nil))))) (badNot (by show restOk many "loop" [dSm sm, bd, .tup bs] = false; rw [rest_loop, hno, Bool.and_false]))
    refine ⟨_, rfl, _, _, _, _, rfl, rfl, hR1, atI_nat (j := 0) rfl, by show 2 ≤ sizeLine; decide, fun U nU => ⟨_, _, rfl, .inr (.of upd_same), rfl, rfl, _, rfl, ?_⟩⟩
    refine iteT' inIL.2.2 ?_
    refine ⟨_, rfl, _, _, rfl, rfl, (dv _).1, _, _, rfl, rfl, (show (0 : Int) < 3 by decide), rfl, _, rfl, ?_⟩
    refine yesDec (fun c5 => ?_) (fun c5 => ?_)
    · refine ⟨_, rfl, _, rfl, slUse (tupS (sameNew nU) hR1) fun r2 H2 s2 h2 => ?_⟩
      rw [show (3 : Int) = ((3 : Nat) : Int) from rfl, cutTake] at h2
      have s12 := Same.trans (sameNew (o := .tup [.str "if", .str "loop"]) nU) s2
      refine ⟨_, rfl, _, _, _, _, rfl, rfl, tupS s12 hR1, atI_nat (j := 3) rfl, _, _, rfl, .inr (tupS s12 hbT), fun A nA => ⟨by show 1 ≤ sizeLine; decide, fun C nC => ⟨by show 4 ≤ sizeLine; decide, fun U2 nU2 => ?_⟩⟩⟩
      have sC := sameNew (o := .lst [.ref A, .non, .str "", .ref C]) nU2
      have sA := Same.trans (sameNew (o := .tup [.non]) nC) sC
      have sL := Same.trans (sameNew (o := .lst _) nA) sA
      obtain ⟨bv, bd, ebv, hbv, hno⟩ := pickIn (K := K) (xs := [.ref A, .non, .str "", .ref C]) (i := cell / 18 % 4) (p := fun d => ∀ r, good many r d = false) (by omega) (by show cell / 18 % 4 < 4; omega) (show ∀ v ∈ [V.ref A, .non, .str "", .ref C], ∃ d : D, Din K (upd (upd (upd H2 A _) C (.tup [.non])) U2 (.lst [.ref A, .non, .str "", .ref C])) v d ∧ ∀ r, good many r d = false by
        intro v hv
        simp only [List.mem_cons, List.not_mem_nil, or_false] at hv
        rcases hv with rfl | rfl | rfl | rfl
        · exact ⟨.lst, .lst (.of (sA _ _ upd_same)), goodNo.1⟩
        · exact ⟨.non, .non, goodNo.2.1⟩
        · exact ⟨.str _, .str _, goodNo.2.2.1 _⟩
        · exact ⟨.tup [.non], .tup (tupS sC (.of upd_same)) (.cons .non .nil), goodNo.2.2.2⟩)
      refine ⟨_, rfl, _, _, rfl, rfl, (dv _).2.2, _, _, rfl, rfl, (show (0 : Int) < 4 by decide), _, _, _, _, rfl, rfl, .of upd_same, ebv, by show 1 ≤ sizeLine; decide, fun T nT => ?_⟩
      refine catUse (tupS (Same.trans sL (sameNew nT)) h2) (.of upd_same) (by show _ + 1 ≤ 100000; simp) fun r4 H4 s4 h4 => ?_
      have sT := Same.trans (sameNew (o := .tup [bv]) nT) s4
      have sX := Same.trans s12 (Same.trans sL sT)
      exact q _ (.ref r4) (.tup [.str "loop", dSm sm, .tup as, bd]) (Same.trans s1 sX) (.tup h4 (.cons (.str _) (.cons (dinSame sX hs') (.cons (dinSame sX ha') (.cons (dinSame sT hbv) .nil))))) (badIn (x := bd) (by simp [inner, k5]) hno)
    · skip
      refine ⟨_, rfl, _, _, _, _, rfl, rfl, tupS (sameNew nU) hR1, atI_nat (j := 0) rfl, _, rfl, _, _, rfl, rfl, (dv _).1, _, rfl, _, _, _, _, rfl, rfl, tupS (sameNew nU) hR1, atI_nat (j := 1) rfl, ?_⟩
      refine ⟨_, _, sm, many, rfl, c6, SumIn.mono (sameNew nU) (sumDin hs'), hw, m1, m3, fun H2 v2 bd s2 hd2 hno => ⟨by show 2 ≤ sizeLine; decide, fun T nT => ?_⟩⟩
      refine ⟨_, rfl, _, rfl, slUseN (tupS (Same.trans (Same.trans (sameNew nU) s2) (sameNew nT)) hR1) fun r3 H3 s3 h3 => ?_⟩
      rw [show (2 : Int) = ((2 : Nat) : Int) from rfl, cutDrop] at h3
      refine catUse (tupS s3 (.of upd_same)) h3 (by show 2 + _ ≤ 100000; simp) fun r4 H4 s4 h4 => ?_
      have sT := Same.trans (sameNew (o := .tup [.str "loop", v2]) nT) (Same.trans s3 s4)
      have sA := Same.trans (Same.trans (sameNew (o := .tup [.str "if", .str "loop"]) nU) s2) sT
      exact q _ (.ref r4) (.tup (.str "loop" :: bd :: [.tup as, .tup bs])) (Same.trans s1 sA) (.tup h4 (.cons (.str _) (.cons (dinSame sT hd2) (.cons (dinSame sA ha') (.cons (dinSame sA hb') .nil))))) (badNot (by show restOk many "loop" (bd :: [.tup as, .tup bs]) = false; exact restNo (.inr (.inr rfl)) hno))

end

end LW

namespace LW
open PySem PySem.Spec PyProof.Rows L2
local macro_rules | `(tactic| walk_at "go1") => `(tactic| first
  | refine ⟨_, rfl, ?_⟩
  | refine ⟨_, _, rfl, rfl, ?_⟩
  | refine ⟨show (0 : Int) < _ from by omega, ?_⟩
  | refine ⟨show CMul _ _ from by first | exact .inl ⟨by omega, by omega⟩ | exact .inr ⟨by omega, by omega⟩, ?_⟩
  | refine ⟨show CDiv _ _ from ⟨by omega, by omega⟩, ?_⟩)
local macro_rules | `(tactic| walk_at "go") => `(tactic| repeat walk_at "go1")

section
variable {P : Program} {w : World} {K : PySem.W.Frag} {mg : Str → Option Value} {base : Heap}

/-- what no program is made of -/
def BadPair (K : PySem.W.Frag) (H : Hp) (tv rv : V) : Prop := (∃ d, Din K H tv d ∧ d.ty ≠ "list") ∨ ∃ (a : Addr) (xs : List V) (ds : List D), tv = .ref a ∧ SqL K H a xs ∧ DinA K H xs ds ∧ (topsOk ds = false ∨ (topsOk ds = true ∧ ds.length ≤ 3 ∧ ∃ d, Din K H rv d ∧ chk ds.length 4 d = none))
theorem badSame {K : PySem.W.Frag} {H H' : Hp} {tv rv : V} (e : Same H H') (h : BadPair K H tv rv) : BadPair K H' tv rv := by
  rcases h with ⟨d, h, t⟩ | ⟨a, xs, ds, rfl, h1, h2, h3⟩
  · exact .inl ⟨d, dinSame e h, t⟩
  · refine .inr ⟨a, xs, ds, rfl, Same.seq e h1, dinASame e h2, ?_⟩
    rcases h3 with h | ⟨h, l, d, hd, hc⟩
    · exact .inl h
    · exact .inr ⟨h, l, d, dinSame e hd, hc⟩
def PairIn (K : PySem.W.Frag) (H : Hp) (v : V) : Prop := ∃ p tv rv, v = .ref p ∧ SqL K H p [tv, rv] ∧ BadPair K H tv rv
theorem pairSame {K : PySem.W.Frag} {H H' : Hp} {v : V} (e : Same H H') (h : PairIn K H v) : PairIn K H' v := by
  obtain ⟨p, tv, rv, rfl, h1, h2⟩ := h
  exact ⟨p, tv, rv, rfl, Same.seq e h1, badSame e h2⟩
theorem topsYes {tops : List Int} (h : TopsW tops) : topsOk (tops.map D.int) = true := by
  obtain ⟨h1, h2, h3⟩ := h
  simp only [topsOk, List.length_map, h1, h2, decide_true, Bool.true_and, List.all_map, List.all_eq_true]
  intro t ht
  exact fromTo_int (h3 t ht).1 (h3 t ht).2
def dD (many : Nat) : Nat → D
  | 0 => .tup [.str "say", dSm (List.replicate many 0, 0)]
  | i + 1 => .tup [.str "loop", dSm (List.replicate many 0, 1), .tup [], .tup [dD many i]]
theorem dD_bad {many : Nat} : ∀ i, (inner (dD many (i + 1))).all (good many i) = false
  | 0 => by rw [dD, in_loop]; rfl
  | i + 1 => by
    rw [dD, in_loop]
    simp only [List.all_cons, List.all_nil, Bool.and_true, good]
    rw [dD_bad i]
    simp
theorem good_app {many r : Nat} {rows : List D} {d : D} (h : (inner d).all (good many r) = false) : good many (r + 1) (.tup (rows ++ [d])) = false := by
  simp [good, h]
theorem cnt_says {r : Nat} {rows : List D} {s : D} : 12 < cnt (r + 1) (.tup (rows ++ List.replicate 13 (.tup [.str "say", s]))) := by
  rw [cnt_tup, List.map_append, List.sum_append, List.map_replicate, cnt_say]
  simp
abbrev s__law_bad : Stmt := topS 39
theorem sc__law_bad : FnScope ["_law_cell", "_law_tops_here", "_law_rows_here", "_law_many", "_law_deep", "_law_k", "_law_some", "_law_places_here", "_law_one"] ["_law_cell", "_law_tops_here", "_law_rows_here"] (defScope s__law_bad) := ⟨rfl, rfl, rfl, by decide +kernel, rfl, by decide +kernel, by decide +kernel⟩

def spBad (K : PySem.W.Frag) : Sp := fun vs H Q _ => ∃ (cell : Int) (tp a : Addr) (tops : List Int) (xs : List V) (rows : List D), vs = [.int cell, .ref tp, .ref a] ∧ 0 ≤ cell ∧ H tp = some (.lst (tops.map V.int)) ∧ TopsW tops ∧ SqT K H a xs ∧ DinA K H xs rows ∧ (∀ d ∈ rows, GRow tops.length 3 d) ∧ cnt 4 (.tup rows) ≤ 30 ∧
  ∀ (r : Addr) (H' : Hp) (tv rv : V), Same H H' → SqL K H' r [tv, rv] → BadPair K H' tv rv → Q (.ref r) H'
theorem ok__law_bad {f : Addr} {fd : FuncData} {k : Nat} (F : Fun K "_law_bad" "_law_bad" s__law_bad f fd) (B : Bl mg) (c__law_places : C8.Cal P w K mg base k "_law_places" (spPl K 4) []) (c__law_changed : C8.Cal P w K mg base k "_law_changed" (spChg K 4) []) (c__law_bad_row : C8.Cal P w K mg base k "_law_bad_row" (spBadR K) []) :
    FnOk P w K mg base CX0 (k + 1) f fd ["_law_cell", "_law_tops_here", "_law_rows_here"] (spBad K) := by
  refine F.ok sc__law_bad (fun vs H Q E h => ?_) (fun cdv A outer s H vs Q E hr h => ?_)
  · obtain ⟨cell, tp, a, tops, xs, rows, rfl, _⟩ := h
    rfl
  obtain ⟨cell, tp, a, tops, xs, rows, rfl, c0, hL, hw, hT, hA, hg, hc, q⟩ := h
  refine ⟨_, (pss_cons (ps_set (i := 3) sc__law_bad.nd rfl (.inl rfl) (pe_callB (kLen (K := K) rfl) (by rfl) B.len PySem.boot_len (pa_cons (pv 1) pa_nil)))
    (pss_cons (ps_set (i := 4) sc__law_bad.nd rfl (.inl rfl) (pe_tup (pa_cons pe_str (pa_cons (pe_tup (pa_cons (pe_op (kRepA (K := K) rfl) (pe_tup (pa_cons pe_int pa_nil)) (pv 3)) (pa_cons pe_int pa_nil))) pa_nil))))
    (C8.pss_cut (ps_for PassesOwn.never rfl (pi_range1 (by rfl) B.range (pa_cons pe_int pa_nil)) (pg_name (i := 5) sc__law_bad.nd rfl (.inl rfl))
      (pss_one (ps_set (i := 4) sc__law_bad.nd rfl (.inl rfl) (pe_tup (pa_cons pe_str (pa_cons (pe_tup (pa_cons (pe_op (kRepA (K := K) rfl) (pe_tup (pa_cons pe_int pa_nil)) (pv 3)) (pa_cons pe_int pa_nil))) (pa_cons (pe_tup pa_nil) (pa_cons (pe_tup (pa_cons (pv 4) pa_nil)) pa_nil))))))))
    (pss_cons (ps_set (i := 6) sc__law_bad.nd rfl (.inl rfl) (pe_lst (pa_cons (pe_lst (pa_cons (pe_callTy (kTup (K := K) rfl) (by rfl) B.tuple (by decide +kernel) (pa_cons (pv 1) pa_nil)) (pa_cons (pv 2) pa_nil))) (pa_cons (pe_lst (pa_cons (pe_lst pa_nil) (pa_cons (pe_tup pa_nil) pa_nil))) (pa_cons (pe_lst (pa_cons (pe_lst (pa_cons pe_int (pa_cons pe_int (pa_cons pe_int (pa_cons pe_int pa_nil))))) (pa_cons (pe_tup pa_nil) pa_nil))) (pa_cons (pe_lst (pa_cons (pv 1) (pa_cons (pe_callTy (kList (K := K) rfl) (by rfl) B.list (by decide +kernel) (pa_cons (pv 2) pa_nil)) pa_nil))) (pa_cons (pe_lst (pa_cons pe_non (pa_cons (pv 2) pa_nil))) (pa_cons (pe_lst (pa_cons (pv 1) (pa_cons pe_non pa_nil))) (pa_cons (pe_lst (pa_cons (pv 1) (pa_cons (pe_op (kCatT (K := K) rfl) (pv 2) (pe_tup (pa_cons (pv 4) pa_nil))) pa_nil))) (pa_cons (pe_lst (pa_cons (pv 1) (pa_cons (pe_op (kCatT (K := K) rfl) (pv 2) (pe_op (kRepA (K := K) rfl) (pe_tup (pa_cons (pe_tup (pa_cons pe_str (pa_cons (pe_tup (pa_cons (pe_op (kRepA (K := K) rfl) (pe_tup (pa_cons pe_int pa_nil)) (pv 3)) (pa_cons pe_int pa_nil))) pa_nil))) pa_nil)) pe_int)) pa_nil))) (pa_cons (pe_lst (pa_cons (pe_op op_cat (pe_slice (kSlL (K := K) rfl) (pv 1) po_none (po_some (pe_un un_neg pe_int))) (pe_lst (pa_cons (pe_ix (kIxL (K := K) rfl) (pe_lst (pa_cons (pe_un un_neg pe_int) (pa_cons pe_int (pa_cons pe_bl (pa_cons pe_str (pa_cons pe_non (pa_cons (pe_op op_pow pe_int pe_int) pa_nil))))))) (pe_op op_mod (pe_op op_fdiv (pv 0) pe_int) pe_int) (fun _ _ => rfl)) pa_nil))) (pa_cons (pv 2) pa_nil))) pa_nil)))))))))))
    (pss_cons (ps_set (i := 7) sc__law_bad.nd rfl (.inl rfl) (C8.pe_c c__law_places hr (Nat.le_refl _) (by rfl) (pa_cons (pv 2) (pa_cons (pe_tup pa_nil) pa_nil))))
    (C8.pss_cut (ps_if (PW.pt (pw_and (pt_cmpR op_lt (pe_op op_mod (pv 0) pe_int) pe_int (nomark _)) (pw_and1 (pt_cmpR (kNeD (K := K) rfl hr.units) (pv 7) (pe_lst pa_nil) (nomark _)))))
      (pss_cons (ps_set (i := 8) sc__law_bad.nd rfl (.inl rfl) (pe_ix (kIxL (K := K) rfl) (pv 7) (pe_op op_mod (pe_op op_fdiv (pv 0) pe_int) (pe_callB (kLen (K := K) rfl) (by rfl) B.len PySem.boot_len (pa_cons (pv 7) pa_nil))) (fun _ _ => rfl)))
      (pss_one (ps_ret (pe_lst (pa_cons (pv 1) (pa_cons (C8.pe_c c__law_changed hr (Nat.le_refl _) (by rfl) (pa_cons (pv 2) (pa_cons (pe_ix (kIxT (K := K) rfl) (pv 8) pe_int (fun _ _ => rfl)) (pa_cons (C8.pe_c c__law_bad_row hr (Nat.le_refl _) (by rfl) (pa_cons (pe_op op_fdiv (pv 0) pe_int) (pa_cons (pe_ix (kIxT (K := K) rfl) (pv 8) pe_int (fun _ _ => rfl)) (pa_cons (pv 3) pa_nil)))) pa_nil)))) pa_nil))))))
      pss_nil)
    (pss_one (ps_ret (pe_ix (kIxL (K := K) rfl) (pv 6) (pe_op op_mod (pe_op op_fdiv (pv 0) pe_int) pe_int) (fun _ _ => rfl)))))))))), ?_⟩
  have szl : (100000 : Nat) ≤ sizeLine := by decide
  have dv : ∀ z : Int, CDiv z 10 ∧ CDiv z 60 := fun z => ⟨⟨by decide, by decide⟩, ⟨by decide, by decide⟩⟩
  have ltop : (tops.map V.int).length = tops.length := List.length_map _
  have lA := hA.len
  have lrows : rows.length ≤ 30 := Nat.le_trans (rowsLe (r := 3)) hc
  refine ⟨_, rfl, _, _, rfl, .inl (.of hL), ?_⟩
  have em : (tops.map V.int).length = tops.length := List.length_map _
  have w1 := hw.1
  have w3 := hw.2.1
  generalize hM : (tops.map V.int).length = M at *
  have m1 : 1 ≤ M := by omega
  have m3 : M ≤ 3 := by omega
  rw [← em] at hg
  have erep : List.replicate M (V.int 0) = (List.replicate M (0 : Int)).map V.int := by simp
  -- the say
  refine ⟨by show 1 ≤ sizeLine; decide, fun A1 nA1 => ⟨_, rfl, repUse (.of upd_same) m1 (by omega) fun r1 H1 s1 h1 => ⟨by show 2 ≤ sizeLine; decide, fun T1 nT1 => ⟨by show 2 ≤ sizeLine; decide, fun U1 nU1 => ?_⟩⟩⟩⟩
  rw [erep] at h1
  have sU : Same H (upd (upd H1 T1 (.tup [.ref r1, .int 0])) U1 (.tup [.str "say", .ref T1])) := Same.trans (Same.trans (sameNew nA1) s1) (Same.trans (sameNew nT1) (sameNew nU1))
  have hd0 : Din K (upd (upd H1 T1 (.tup [.ref r1, .int 0])) U1 (.tup [.str "say", .ref T1])) (.ref U1) (dD M 0) :=
    .tup (.of upd_same) (.cons (.str _) (.cons (dinSum ⟨T1, r1, rfl, tupS (sameNew nU1) (.of upd_same), tupS (Same.trans (sameNew nT1) (sameNew nU1)) h1⟩) .nil))
  generalize upd (upd H1 T1 (.tup [.ref r1, .int 0])) U1 (.tup [.str "say", .ref T1]) = H2 at *
  clear h1 s1 nA1 nT1 nU1
  refine ⟨fun σ' H' => ∃ (v : V) (y5 : Option V), σ' = [some (.int cell), some (.ref tp), some (.ref a), some (.int (M : Int)), some v, y5, none, none, none] ∧ Same H H' ∧ Din K H' v (dD M 4), ?_, ?_⟩
  · refine ⟨4, rfl, by decide, by decide, ?_⟩
    refine for_range (lo := 0) (n := (4 : Int).toNat) (fun i σ H' => ∃ (v : V) (y5 : Option V), σ = [some (.int cell), some (.ref tp), some (.ref a), some (.int (M : Int)), some v, y5, none, none, none] ∧ Same H H' ∧ Din K H' v (dD M i)) ⟨.ref U1, none, rfl, sU, hd0⟩ (fun i σ H' hi w => ?_) (fun σ H' w => w)
    obtain ⟨v, y5, rfl, sm, hv⟩ := w
    refine ⟨by show 1 ≤ sizeLine; decide, fun A1 nA1 => ⟨_, rfl, repUse (.of upd_same) m1 (by omega) fun r1 H1 s1 h1 => ⟨by show 2 ≤ sizeLine; decide, fun T1 nT1 => ⟨by show 0 ≤ sizeLine; decide, fun Z nZ => ⟨_, rfl, by show 1 ≤ sizeLine; decide, fun W nW => ⟨by show 4 ≤ sizeLine; decide, fun U1 nU1 => ?_⟩⟩⟩⟩⟩⟩
    rw [erep] at h1
    have sW := sameNew (o := .tup [.str "loop", .ref T1, .ref Z, .ref W]) nU1
    have sZ := Same.trans (sameNew (o := .tup [v]) nW) sW
    have sT := Same.trans (sameNew (o := .tup []) nZ) sZ
    have s01 := Same.trans (sameNew (o := .tup [.int 0]) nA1) s1
    have s14 := Same.trans (sameNew (o := .tup [.ref r1, .int 1]) nT1) sT
    refine ⟨.ref U1, _, rfl, Same.trans sm (Same.trans s01 s14), ?_⟩
    exact .tup (.of upd_same) (.cons (.str _) (.cons (dinSum ⟨T1, r1, rfl, tupS sT (.of upd_same), tupS s14 h1⟩) (.cons (.tup (tupS sZ (.of upd_same)) .nil) (.cons (.tup (tupS sW (.of upd_same)) (.cons (dinSame (Same.trans s01 s14) hv) .nil)) .nil))))
  rintro σ' H3 ⟨v, y5, rfl, sm, hv⟩
  clear hd0 sU
  have hL3 := sm _ _ hL
  have hT3 := tupS sm hT
  have hA3 := dinASame sm hA
  have dT : ∀ (H' : Hp), DinA K H' (tops.map V.int) (tops.map D.int) := fun H' => dinInts tops
  have ty := topsYes hw
  have dl : (tops.map D.int).length = M := by simp [em]
  have dl3 : (tops.map D.int).length ≤ 3 := by omega
  -- one
  refine ⟨_, rfl, _, _, rfl, .inl ⟨.of hL3, fun X1 nX1 => ⟨_, rfl, by show 2 ≤ sizeLine; decide, fun Y1 nY1 => ?_⟩⟩⟩
  have s4 := Same.trans (sameNew (o := .tup (tops.map V.int)) nX1) (sameNew (o := .lst [.ref X1, .ref a]) nY1)
  have P1 : PairIn K (upd (upd H3 X1 (.tup (tops.map V.int))) Y1 (.lst [.ref X1, .ref a])) (.ref Y1) := ⟨Y1, _, _, rfl, .of upd_same, .inl ⟨.tup (tops.map D.int), .tup (tupS (sameNew nY1) (.of upd_same)) (dT _), by simp [D.ty]⟩⟩
  generalize upd (upd H3 X1 (.tup (tops.map V.int))) Y1 (.lst [.ref X1, .ref a]) = H4 at *
  clear nX1 nY1
  -- two
  refine ⟨by show 0 ≤ sizeLine; decide, fun X2 nX2 => ⟨by show 0 ≤ sizeLine; decide, fun Z2 nZ2 => ⟨by show 2 ≤ sizeLine; decide, fun Y2 nY2 => ?_⟩⟩⟩
  have s5 := Same.trans (sameNew (o := .lst []) nX2) (Same.trans (sameNew (o := .tup []) nZ2) (sameNew (o := .lst [.ref X2, .ref Z2]) nY2))
  have P2 : PairIn K (upd (upd (upd H4 X2 (.lst [])) Z2 (.tup [])) Y2 (.lst [.ref X2, .ref Z2])) (.ref Y2) := ⟨Y2, _, _, rfl, .of upd_same, .inr ⟨X2, [], [], rfl, .of ((Same.trans (sameNew nZ2) (sameNew nY2)) _ _ upd_same), .nil, .inl rfl⟩⟩
  generalize upd (upd (upd H4 X2 (.lst [])) Z2 (.tup [])) Y2 (.lst [.ref X2, .ref Z2]) = H5 at *
  clear nX2 nY2 nZ2
  -- three
  refine ⟨by show 4 ≤ sizeLine; decide, fun X2 nX2 => ⟨by show 0 ≤ sizeLine; decide, fun Z2 nZ2 => ⟨by show 2 ≤ sizeLine; decide, fun Y3 nY2 => ?_⟩⟩⟩
  have s6 := Same.trans (sameNew (o := .lst [.int 0, .int 0, .int 0, .int 0]) nX2) (Same.trans (sameNew (o := .tup []) nZ2) (sameNew (o := .lst [.ref X2, .ref Z2]) nY2))
  have P3 : PairIn K (upd (upd (upd H5 X2 (.lst [.int 0, .int 0, .int 0, .int 0])) Z2 (.tup [])) Y3 (.lst [.ref X2, .ref Z2])) (.ref Y3) := ⟨Y3, _, _, rfl, .of upd_same, .inr ⟨X2, _, [.int 0, .int 0, .int 0, .int 0], rfl, .of ((Same.trans (sameNew nZ2) (sameNew nY2)) _ _ upd_same), .cons (.int 0) (.cons (.int 0) (.cons (.int 0) (.cons (.int 0) .nil))), .inl rfl⟩⟩
  generalize upd (upd (upd H5 X2 (.lst [.int 0, .int 0, .int 0, .int 0])) Z2 (.tup [])) Y3 (.lst [.ref X2, .ref Z2]) = H6 at *
  clear nX2 nY2 nZ2
  -- four
  have s36 := Same.trans s4 (Same.trans s5 s6)
  refine ⟨_, rfl, _, rfl, _, _, rfl, .inr (tupS s36 hT3), fun X4 nX4 => ⟨by show 2 ≤ sizeLine; decide, fun Y4 nY4 => ?_⟩⟩
  have s7 := Same.trans (sameNew (o := .lst xs) nX4) (sameNew (o := .lst [.ref tp, .ref X4]) nY4)
  have P4 : PairIn K (upd (upd H6 X4 (.lst xs)) Y4 (.lst [.ref tp, .ref X4])) (.ref Y4) := ⟨Y4, _, _, rfl, .of upd_same, .inr ⟨tp, _, tops.map D.int, rfl, .of ((Same.trans s36 s7) _ _ hL3), dT _, .inr ⟨ty, dl3, .lst, .lst (.of (sameNew nY4 _ _ upd_same)), chk_none (.inl rfl)⟩⟩⟩
  generalize upd (upd H6 X4 (.lst xs)) Y4 (.lst [.ref tp, .ref X4]) = H7 at *
  clear nX4 nY4
  -- five
  have s37 := Same.trans s36 s7
  refine ⟨_, rfl, by show 2 ≤ sizeLine; decide, fun Y5 nY5 => ?_⟩
  have s8 := sameNew (o := .lst [.non, .ref a]) nY5
  have P5 : PairIn K (upd H7 Y5 (.lst [.non, .ref a])) (.ref Y5) := ⟨Y5, _, _, rfl, .of upd_same, .inl ⟨.non, .non, by simp [D.ty]⟩⟩
  generalize upd H7 Y5 (.lst [.non, .ref a]) = H8 at *
  clear nY5
  -- six
  have s38 := Same.trans s37 s8
  refine ⟨_, rfl, by show 2 ≤ sizeLine; decide, fun Y6 nY6 => ?_⟩
  have s9 := sameNew (o := .lst [.ref tp, .non]) nY6
  have P6 : PairIn K (upd H8 Y6 (.lst [.ref tp, .non])) (.ref Y6) := ⟨Y6, _, _, rfl, .of upd_same, .inr ⟨tp, _, tops.map D.int, rfl, .of ((Same.trans s38 s9) _ _ hL3), dT _, .inr ⟨ty, dl3, .non, .non, chk_none (.inl rfl)⟩⟩⟩
  generalize upd H8 Y6 (.lst [.ref tp, .non]) = H9 at *
  clear nY6
  -- seven
  have s39 := Same.trans s38 s9
  refine ⟨_, rfl, _, rfl, _, rfl, by show 1 ≤ sizeLine; decide, fun X7 nX7 => ?_⟩
  refine catUse (tupS (Same.trans s39 (sameNew nX7)) hT3) (.of upd_same) (by simp; omega) fun r7 H10 s10 h10 => ⟨by show 2 ≤ sizeLine; decide, fun Y7 nY7 => ?_⟩
  have s911 := Same.trans (sameNew (o := .tup [v]) nX7) (Same.trans s10 (sameNew (o := .lst [.ref tp, .ref r7]) nY7))
  have P7 : PairIn K (upd H10 Y7 (.lst [.ref tp, .ref r7])) (.ref Y7) := ⟨Y7, _, _, rfl, .of upd_same, .inr ⟨tp, _, tops.map D.int, rfl, .of ((Same.trans s39 s911) _ _ hL3), dT _, .inr ⟨ty, dl3, .tup (rows ++ [dD M 4]),
    .tup (tupS (sameNew nY7) h10) (dinApp (dinASame (Same.trans s39 s911) hA3) (.cons (dinSame (Same.trans s39 s911) hv) .nil)), chk_none (.inl (by rw [dl]; exact good_app (dD_bad 3)))⟩⟩⟩
  generalize upd H10 Y7 (.lst [.ref tp, .ref r7]) = H11 at *
  clear nX7 nY7 s10 h10
  -- eight
  have s311 := Same.trans s39 s911
  refine ⟨_, rfl, _, rfl, by show 1 ≤ sizeLine; decide, fun A1 nA1 => ⟨_, rfl, repUse (.of upd_same) m1 (by omega) fun r1 H1 s1 h1 => ⟨by show 2 ≤ sizeLine; decide, fun T1 nT1 => ⟨by show 2 ≤ sizeLine; decide, fun U1 nU1 => ⟨by show 1 ≤ sizeLine; decide, fun W nW => repUseC (n := 13) (.of upd_same) (by decide) (by decide) fun r8 H12 s12 h12 => ?_⟩⟩⟩⟩⟩
  rw [erep] at h1
  have sUW := Same.trans (sameNew (o := .tup [.ref U1]) nW) s12
  have sTW := Same.trans (sameNew (o := .tup [.str "say", .ref T1]) nU1) sUW
  have sRW := Same.trans (sameNew (o := .tup [.ref r1, .int 0]) nT1) sTW
  have s1112 := Same.trans (Same.trans (sameNew (o := .tup [.int 0]) nA1) s1) sRW
  have hsay : Din K H12 (.ref U1) (.tup [.str "say", dSm (List.replicate M 0, 0)]) := .tup (tupS sUW (.of upd_same)) (.cons (.str _) (.cons (dinSum ⟨T1, r1, rfl, tupS sTW (.of upd_same), tupS sRW h1⟩) .nil))
  have hsays : ∀ n, DinA K H12 (List.replicate n (.ref U1)) (List.replicate n (.tup [.str "say", dSm (List.replicate M 0, 0)])) := fun n => by
    induction n with
    | zero => exact .nil
    | succ n ih => exact .cons hsay ih
  refine catUse (tupS (Same.trans s311 s1112) hT3) h12 (by simp; omega) fun r9 H13 s13 h13 => ⟨by show 2 ≤ sizeLine; decide, fun Y8 nY8 => ?_⟩
  have s1113 := Same.trans s13 (sameNew (o := .lst [.ref tp, .ref r9]) nY8)
  have s1114 := Same.trans s1112 s1113
  have P8 : PairIn K (upd H13 Y8 (.lst [.ref tp, .ref r9])) (.ref Y8) := ⟨Y8, _, _, rfl, .of upd_same, .inr ⟨tp, _, tops.map D.int, rfl, .of ((Same.trans s311 s1114) _ _ hL3), dT _, .inr ⟨ty, dl3, .tup (rows ++ List.replicate 13 (.tup [.str "say", dSm (List.replicate M 0, 0)])),
    .tup (tupS (sameNew nY8) h13) (dinApp (dinASame (Same.trans s311 s1114) hA3) (dinASame s1113 (hsays 13))), chk_none (.inr cnt_says)⟩⟩⟩
  generalize upd H13 Y8 (.lst [.ref tp, .ref r9]) = H14 at *
  clear hsay hsays s1113 h13 h12 s13 nY8 sRW sTW sUW h1 nW nU1 nT1 nA1
  -- nine
  have s314 := Same.trans s311 s1114
  refine ⟨_, rfl, _, rfl, _, rfl, _, _, rfl, .of (s314 _ _ hL3), fun X9 nX9 => ?_⟩
  rw [cutLast (by omega)]
  refine ⟨_, rfl, _, _, rfl, rfl, (show CPow 10 20 from ⟨by decide, by decide, by decide⟩), by show 6 ≤ sizeLine; decide, fun U9 nU9 => ?_⟩
  obtain ⟨bv, bd, ebv, hbv, hno⟩ := pickBad (xs := [.int (-1), .int 10, .bl true, .str "1", .non, .int (10 ^ (20 : Int).toNat)]) (i := cell / 10 % 6) (p := fun d => fromTo d 0 9) (by omega) (by show cell / 10 % 6 < 6; omega) (by
    intro v hv
    simp only [List.mem_cons, List.not_mem_nil, or_false] at hv
    rcases hv with rfl | rfl | rfl | rfl | rfl | rfl
    · exact ⟨.int _, fun _ _ => .int _, by decide⟩
    · exact ⟨.int _, fun _ _ => .int _, by decide⟩
    · exact ⟨.bl _, fun _ _ => .bl _, rfl⟩
    · exact ⟨.str _, fun _ _ => .str _, rfl⟩
    · exact ⟨.non, fun _ _ => .non, rfl⟩
    · exact ⟨.int _, fun _ _ => .int _, by decide⟩)
  refine ⟨_, rfl, _, _, rfl, rfl, (dv _).1, _, _, rfl, rfl, (show (0 : Int) < 6 by decide), _, _, _, _, rfl, rfl, .of upd_same, ebv, by show 1 ≤ sizeLine; decide, fun W9 nW9 => ⟨X9, W9, _, _, rfl, rfl, (Same.trans (sameNew nU9) (sameNew nW9)) _ _ upd_same, upd_same, by simp; omega, fun V9 nV9 => ⟨_, rfl, by show 2 ≤ sizeLine; decide, fun Y9 nY9 => ?_⟩⟩⟩
  have s1415 := Same.trans (sameNew (o := .lst ((tops.map V.int).take ((tops.map V.int).length - 1))) nX9) (Same.trans (sameNew (o := .lst [.int (-1), .int 10, .bl true, .str "1", .non, .int (10 ^ (20 : Int).toNat)]) nU9) (Same.trans (sameNew (o := .lst [bv]) nW9) (Same.trans (sameNew (o := .lst ((tops.map V.int).take ((tops.map V.int).length - 1) ++ [bv])) nV9) (sameNew (o := .lst [.ref V9, .ref a]) nY9))))
  have P9 : PairIn K (upd (upd (upd (upd (upd H14 X9 (.lst ((tops.map V.int).take ((tops.map V.int).length - 1)))) U9 (.lst [.int (-1), .int 10, .bl true, .str "1", .non, .int (10 ^ (20 : Int).toNat)])) W9 (.lst [bv])) V9 (.lst ((tops.map V.int).take ((tops.map V.int).length - 1) ++ [bv]))) Y9 (.lst [.ref V9, .ref a])) (.ref Y9) :=
    ⟨Y9, _, _, rfl, .of upd_same, .inr ⟨V9, _, (tops.map D.int).take ((tops.map V.int).length - 1) ++ [bd], rfl, .of (sameNew nY9 _ _ upd_same), dinApp (dinTake _ (dinInts tops)) (.cons (hbv _ _) .nil), .inl (by
      simp only [topsOk, List.all_append, List.all_cons, List.all_nil, hno, Bool.false_and, Bool.and_false])⟩⟩
  generalize upd (upd (upd (upd (upd H14 X9 (.lst ((tops.map V.int).take ((tops.map V.int).length - 1)))) U9 (.lst [.int (-1), .int 10, .bl true, .str "1", .non, .int (10 ^ (20 : Int).toNat)])) W9 (.lst [bv])) V9 (.lst ((tops.map V.int).take ((tops.map V.int).length - 1) ++ [bv]))) Y9 (.lst [.ref V9, .ref a]) = H15 at *
  clear nX9 nU9 nW9 nV9 nY9
  refine ⟨by show 9 ≤ sizeLine; decide, fun S nS => ?_⟩
  have s16 := sameNew (o := .lst [.ref Y1, .ref Y2, .ref Y3, .ref Y4, .ref Y5, .ref Y6, .ref Y7, .ref Y8, .ref Y9]) nS
  have PS : ∀ v ∈ [V.ref Y1, .ref Y2, .ref Y3, .ref Y4, .ref Y5, .ref Y6, .ref Y7, .ref Y8, .ref Y9], PairIn K (upd H15 S (.lst [.ref Y1, .ref Y2, .ref Y3, .ref Y4, .ref Y5, .ref Y6, .ref Y7, .ref Y8, .ref Y9])) v := by
    have t15 := s16
    have t14 := Same.trans s1415 t15
    have t11 := Same.trans s1114 t14
    have t9 := Same.trans s911 t11
    have t8 := Same.trans s9 t9
    have t7 := Same.trans s8 t8
    have t6 := Same.trans s7 t7
    have t5 := Same.trans s6 t6
    have t4 := Same.trans s5 t5
    intro v hv
    simp only [List.mem_cons, List.not_mem_nil, or_false] at hv
    rcases hv with rfl | rfl | rfl | rfl | rfl | rfl | rfl | rfl | rfl
    · exact pairSame t4 P1
    · exact pairSame t5 P2
    · exact pairSame t6 P3
    · exact pairSame t7 P4
    · exact pairSame t8 P5
    · exact pairSame t9 P6
    · exact pairSame t11 P7
    · exact pairSame t14 P8
    · exact pairSame t15 P9
  have s03 := Same.trans sm (Same.trans s314 (Same.trans s1415 s16))
  have hS : upd H15 S (.lst [.ref Y1, .ref Y2, .ref Y3, .ref Y4, .ref Y5, .ref Y6, .ref Y7, .ref Y8, .ref Y9]) S = some (.lst [.ref Y1, .ref Y2, .ref Y3, .ref Y4, .ref Y5, .ref Y6, .ref Y7, .ref Y8, .ref Y9]) := upd_same
  generalize upd H15 S (.lst [.ref Y1, .ref Y2, .ref Y3, .ref Y4, .ref Y5, .ref Y6, .ref Y7, .ref Y8, .ref Y9]) = H16 at *
  clear P1 P2 P3 P4 P5 P6 P7 P8 P9 s4 s5 s6 s7 s8 s9 s911 s1114 s1415 s36 s37 s38 s39 s311 s314 s16 nS hL3 hT3 hA3 hv sm
  -- the places
  refine ⟨_, rfl, by show 0 ≤ sizeLine; decide, fun Z nZ => ?_⟩
  have s0Z := Same.trans s03 (sameNew (o := .tup []) nZ)
  refine ⟨M, a, Z, xs, rows, [], rfl, tupS s0Z hT, dinASame s0Z hA, .of upd_same, fun d hd => ⟨3, rfl, hg d hd⟩, by decide, by simp, by decide, by omega, fun pl H17 us npl s17 hpl hP => ?_⟩
  have s0P := Same.trans s0Z s17
  have sSP := Same.trans (sameNew (o := .tup []) nZ) s17
  have hpp : ∀ p ∈ plD 4 rows [], p.2.pure = true ∧ ∃ r', GRow M r' p.2 := plPure 4 rows [] fun d hd => ⟨3, hg d hd⟩
  have lus : us.length ≤ 30 := by
    have := hP.len
    rw [plLen] at this
    omega
  refine ⟨fun σ' H' => σ' = [some (.int cell), some (.ref tp), some (.ref a), some (.int (M : Int)), some v, y5, some (.ref S), some (.ref pl), none] ∧ Same H17 H', ?_, ?_⟩
  · refine ⟨_, rfl, _, _, rfl, rfl, (show (0 : Int) < 10 by decide), _, _, rfl, rfl, _, rfl, ?_⟩
    refine yesDec (fun c1 => ?_) (fun c1 => ⟨rfl, Same.refl _⟩)
    refine ⟨_, rfl, by show 0 ≤ sizeLine; decide, fun E2 nE => ?_⟩
    have lyP : Ly 13 (.list ((plD 4 rows []).map dPd)) := lyPds (many := M) (plGood 4 rows [] hg)
    refine ⟨.list ((plD 4 rows []).map dPd), .list [], .lst (.of (sameNew nE _ _ hpl)) (dpPds (fun p hp => (hpp p hp).1) (plTS (tsOf (sameNew nE)) (fun p hp => (hpp p hp).1) hP)), .lst (.of upd_same) .nil, lyP.shaped (by decide), (lyLst (lyNil 1)).shaped (by decide), _, rfl, ?_⟩
    refine ifB (fun c2 => ?_) (fun c2 => ⟨rfl, sameNew nE⟩)
    have hne : plD 4 rows [] ≠ [] := fun e => by
      rw [e] at c2
      simp [PyData.eqv, PyData.eqvAll] at c2
    have lp : 1 ≤ us.length := by
      rw [hP.len]
      exact List.length_pos_iff.mpr hne
    have hpl2 := sameNew (o := .lst []) nE _ _ hpl
    have e0 : 0 ≤ cell / 10 % ((us.length : Nat) : Int) := Int.emod_nonneg _ (by omega)
    have e1 : cell / 10 % ((us.length : Nat) : Int) < ((us.length : Nat) : Int) := Int.emod_lt_of_pos _ (by omega)
    obtain ⟨j, ej⟩ : ∃ j : Nat, cell / 10 % ((us.length : Nat) : Int) = (j : Int) := ⟨(cell / 10 % ((us.length : Nat) : Int)).toNat, by omega⟩
    have hj : j < us.length := by omega
    obtain ⟨p, ep, hp⟩ := A2.at hP (List.getElem?_eq_getElem hj)
    have mp : p ∈ plD 4 rows [] := List.mem_of_getElem? ep
    obtain ⟨_, r', gp⟩ := hpp p mp
    obtain ⟨t, pa, rv, et, h1, h2, h3⟩ := hp
    obtain ⟨rest, e2, e3, _⟩ := plLook 4 rows [] p mp
    rw [List.nil_append] at e2
    subst e2
    have ea : atI us (cell / 10 % ((us.length : Nat) : Int)) = some (.ref t) := by
      rw [ej, ← et]
      exact atI_nat (List.getElem?_eq_getElem hj)
    refine ⟨_, rfl, _, rfl, _, _, rfl, rfl, (dv _).1, _, rfl, _, _, rfl, .inl (.of hpl2), _, _, rfl, rfl, (by omega), _, _, _, _, rfl, rfl, .of hpl2, ea, ?_⟩
    have sE := sameNew (o := .lst []) nE
    refine ⟨_, rfl, _, rfl, _, rfl, _, _, _, _, rfl, rfl, tupS sE h1, atI_nat (j := 0) rfl, _, rfl, _, _, rfl, rfl, (dv _).2, _, rfl, _, _, _, _, rfl, rfl, tupS sE h1, atI_nat (j := 1) rfl, _, rfl, ?_⟩
    refine ⟨_, rv, p.2, M, r', rfl, by omega, dinSame sE h3, gp, m1, m3, fun H18 v2 bd s18 hbd bad => ?_⟩
    have s1E := Same.trans sE s18
    have s0E := Same.trans s0P s1E
    refine ⟨M, a, pa, v2, xs, rows, p.1, p.2, bd, rfl, tupS s0E hT, dinASame s0E hA, tupS s1E h2, hbd, bad, fun d hd => ⟨3, rfl, hg d hd⟩, by decide, e3, by omega, by omega, fun p3 H19 us2 rs s19 hp3 hus hrs => ⟨by show 2 ≤ sizeLine; decide, fun R nR => ?_⟩⟩
    have s0R := Same.trans s0E (Same.trans s19 (sameNew (o := .lst [.ref tp, .ref p3]) nR))
    refine q R _ (.ref tp) (.ref p3) s0R (.of upd_same) (.inr ⟨tp, _, tops.map D.int, rfl, .of (s0R _ _ hL), dinInts tops, .inr ⟨ty, dl3, .tup rs, .tup (tupS (sameNew nR) hp3) (dinASame (sameNew nR) hus), chk_none (.inl ?_)⟩⟩)
    rw [dl]
    exact hrs 4
  · rintro σ' H20 ⟨rfl, s20⟩
    obtain ⟨j, ej⟩ : ∃ j : Nat, cell / 60 % 9 = (j : Int) := ⟨(cell / 60 % 9).toNat, by omega⟩
    have hj : j < 9 := by omega
    have s16E := Same.trans sSP s20
    obtain ⟨v9, ev9⟩ : ∃ v9, [V.ref Y1, .ref Y2, .ref Y3, .ref Y4, .ref Y5, .ref Y6, .ref Y7, .ref Y8, .ref Y9][j]? = some v9 := ⟨_, List.getElem?_eq_getElem (by simpa using hj)⟩
    obtain ⟨p, tv, rv, rfl, h1, h2⟩ := pairSame s16E (PS v9 (List.mem_of_getElem? ev9))
    refine ⟨_, rfl, _, rfl, _, _, rfl, rfl, (dv _).2, _, _, rfl, rfl, (show (0 : Int) < 9 by decide), _, _, _, _, rfl, rfl, .of (s16E _ _ hS), (by rw [ej]; exact atI_nat ev9), ?_⟩
    exact q p _ tv rv (Same.trans s0P s20) h1 h2

end

end LW

namespace LW
open PySem PySem.Spec PyProof.Rows L2
local macro_rules | `(tactic| walk_at "go1") => `(tactic| first
  | refine ⟨_, rfl, ?_⟩
  | refine ⟨_, _, rfl, rfl, ?_⟩
  | refine ⟨show (0 : Int) < _ from by omega, ?_⟩
  | refine ⟨show CMul _ _ from by first | exact .inl ⟨by omega, by omega⟩ | exact .inr ⟨by omega, by omega⟩, ?_⟩
  | refine ⟨show CDiv _ _ from ⟨by omega, by omega⟩, ?_⟩)
local macro_rules | `(tactic| walk_at "go") => `(tactic| repeat walk_at "go1")

section
variable {P : Program} {w : World} {K : PySem.W.Frag} {mg : Str → Option Value} {base : Heap}

def isLp (d : D) : Bool := match d with
  | .tup (.str k :: _) => decide (k = "loop")
  | _ => false
def loP (ps : List Pd) : List (List Nat) := (ps.filter fun p => isLp p.2).map (·.1)
theorem loP_app (a b : List Pd) : loP (a ++ b) = loP a ++ loP b := by simp [loP]
theorem loP_len (a : List Pd) : (loP a).length ≤ a.length := by
  simp only [loP, List.length_map]
  exact List.length_filter_le _ _
theorem loP_one {p : List Nat} {d : D} (h : isLp d = true) : loP [(p, d)] = [p] := by simp [loP, h]
theorem loP_no {p : List Nat} {d : D} (h : isLp d = false) : loP [(p, d)] = [] := by simp [loP, h]
def PlcIn (K : PySem.W.Frag) (H : Hp) (v : V) (p : List Nat) : Prop := ∃ pa, v = .ref pa ∧ SqT K H pa (nats p)
theorem plcTS {K : PySem.W.Frag} {H H' : Hp} {vs : List V} {ps : List (List Nat)} (e : TS H H') (h : A2 (PlcIn K H) vs ps) : A2 (PlcIn K H') vs ps :=
  A2.map (B' := ps) (fun v p _ ⟨pa, e0, h1⟩ => ⟨pa, e0, tsTup e h1⟩) (fun _ m => m) h
theorem cntIn {r : Nat} {d x : D} (m : x ∈ inner d) : cnt r x ≤ cntRow r d := by
  have key : ∀ l : List D, x ∈ l → cnt r x ≤ (l.map (cnt r)).sum := by
    intro l
    induction l with
    | nil => intro m; cases m
    | cons y t ih =>
      intro m
      rw [List.map_cons, List.sum_cons]
      rcases List.mem_cons.mp m with e | m
      · subst e; omega
      · have := ih m; omega
  have := key _ m
  unfold cntRow
  omega
theorem innerPure {many r : Nat} {d x : D} (g : GRow many r d) (m : x ∈ inner d) : ∃ r' rs, r = r' + 1 ∧ x = .tup rs ∧ ∀ y ∈ rs, GRow many r' y := by
  rcases gKinds g with ⟨b, s, rfl⟩ | ⟨w, rfl⟩ | ⟨r2, w, a, b, e, rfl, ga, gb⟩ | ⟨r2, w, ws, b, e, rfl, gb⟩
  · rw [in_put] at m; cases m
  · rw [in_say] at m; cases m
  · rw [in_if] at m
    rcases List.mem_cons.mp m with e2 | e2
    · exact ⟨r2, a, e, e2, ga⟩
    · exact ⟨r2, b, e, List.mem_singleton.mp e2, gb⟩
  · rw [in_loop] at m
    exact ⟨r2, b, e, List.mem_singleton.mp m, gb⟩
theorem rowsPure {many r : Nat} {rs : List D} (h : ∀ y ∈ rs, GRow many r y) : D.pures rs = true := pures_of fun d hd => (h d hd).2.1
def spLo (K : PySem.W.Frag) (i : Nat) : Sp := fun vs H Q _ => ∃ (many : Nat) (a b : Addr) (xs : List V) (rows : List D) (ahead : List Nat), vs = [.ref a, .ref b] ∧ SqT K H a xs ∧ DinA K H xs rows ∧ SqT K H b (nats ahead) ∧ (∀ d ∈ rows, ∃ r, i = r + 1 ∧ GRow many r d) ∧ 1 ≤ i ∧ ahead.length ≤ 100 - 2 * i ∧ 2 * i ≤ 100 ∧ cnt i (.tup rows) ≤ 1000 ∧
  ∀ (p : Addr) (H' : Hp) (us : List V), H p = none → Same H H' → H' p = some (.lst us) → A2 (PlcIn K H') us (loP (plD i rows ahead)) → Q (.ref p) H'
abbrev s__loops_among : Stmt := topS 17
theorem sc__loops_among : FnScope ["rows", "ahead", "found", "number", "row", "place", "which", "inner"] ["rows", "ahead"] (defScope s__loops_among) := ⟨rfl, rfl, rfl, by decide +kernel, rfl, by decide +kernel, by decide +kernel⟩

theorem ok__loops_among {f : Addr} {fd : FuncData} {k i : Nat} (F : Fun K "_loops_among" "_loops_among" s__loops_among f fd) (B : Bl mg) (c_rows_within : C8.Cal P w K mg base k "rows_within" (spWithin K) []) (c__loops_among : C8.Cal P w K mg base k "_loops_among" (spLo K i) []) : FnOk P w K mg base CX0 (k + 1) f fd ["rows", "ahead"] (spLo K (i + 1)) := by
  refine F.ok sc__loops_among (fun vs H Q E h => ?_) (fun cdv A outer s H vs Q E hr h => ?_)
  · obtain ⟨many, a, b, xs, rows, ahead, rfl, _⟩ := h
    rfl
  obtain ⟨many, a, b, xs, rows, ahead, rfl, hT, hA, hB, hg, hi1, hl, h2i, hc, q⟩ := h
  refine ⟨_, (pss_cons (ps_set (i := 2) sc__loops_among.nd rfl (.inl rfl) (pe_lst pa_nil))
    (pss_cons (ps_for PassesOwn.never rfl (kE (K := K) rfl true (by rfl) B.enumerate (pa_cons (pv 0) pa_nil)) (kT2 (K := K) rfl rfl (pg_name (i := 3) sc__loops_among.nd rfl (.inl rfl)) (pg_name (i := 4) sc__loops_among.nd rfl (.inl rfl)))
      (pss_cons (ps_set (i := 5) sc__loops_among.nd rfl (.inl rfl) (pe_op (kCatT (K := K) rfl) (pv 1) (pe_tup (pa_cons (pv 3) pa_nil))))
      (C8.pss_cut (ps_if (pt_cmpR op_eq (pe_ix (kIxT (K := K) rfl) (pv 4) pe_int (fun _ _ => rfl)) pe_str (nomark _))
        (pss_one (ps_expr (pe_bm PySem.F.plainAttrs_list PySem.F.slot_list_append PySem.F.type_list_append mt_append (pv 2) (pa_cons (pv 5) pa_nil))))
        pss_nil)
      (pss_one (ps_for PassesOwn.never rfl (kE (K := K) rfl true (by rfl) B.enumerate (pa_cons (C8.pe_c c_rows_within hr (Nat.le_refl _) (by rfl) (pa_cons (pv 4) pa_nil)) pa_nil)) (kT2 (K := K) rfl rfl (pg_name (i := 6) sc__loops_among.nd rfl (.inl rfl)) (pg_name (i := 7) sc__loops_among.nd rfl (.inl rfl)))
        (pss_one (ps_expr (pe_bm PySem.F.plainAttrs_list PySem.F.slot_list_extend PySem.F.type_list_extend mt_extend (pv 2) (pa_cons (C8.pe_c c__loops_among hr (Nat.le_refl _) (by rfl) (pa_cons (pv 7) (pa_cons (pe_op (kCatT (K := K) rfl) (pv 5) (pe_tup (pa_cons (pv 6) pa_nil))) pa_nil))) pa_nil)))))))))
    (pss_one (ps_ret (pv 2))))), ?_⟩
  have szl : (100000 : Nat) ≤ sizeLine := by decide
  have hgr : ∀ d ∈ rows, GRow many i d := fun d hd => by
    obtain ⟨r, e, g⟩ := hg d hd
    have : r = i := by omega
    exact this ▸ g
  have lA := hA.len
  refine ⟨by show 0 ≤ sizeLine; decide, fun L nL => ?_⟩
  refine ⟨_, rfl, a, xs, rfl, tupS (sameNew nL) hT, ?_⟩
  refine for_it (walkE (xs := xs)) (fun j σ H' => ∃ (us : List V) (y3 y4 y5 y6 y7 : Option V), σ = [some (.ref a), some (.ref b), some (.ref L), y3, y4, y5, y6, y7] ∧ Same H H' ∧ H' L = some (.lst us) ∧ A2 (PlcIn K H') us (loP (plD (i + 1) (rows.take j) ahead)))
    ⟨[], none, none, none, none, none, rfl, sameNew nL, upd_same, by rw [List.take_zero]; exact .nil⟩ (fun j σ H' _ w => ?_) (fun j x σ H' H0' hj w y => ?_) (fun σ H' w => ?_)
  · obtain ⟨us, y3, y4, y5, y6, y7, rfl, sm, _⟩ := w
    exact tupS sm hT
  · obtain ⟨us, y3, y4, y5, y6, y7, rfl, sm, hL, hP⟩ := w
    obtain ⟨T, x1, x2, rfl, nT, rfl, e1, e2⟩ := y
    cases e1
    obtain ⟨d, ed, hd⟩ := dinAt hA e2
    have md : d ∈ rows := List.mem_of_getElem? ed
    have gd := hgr d md
    have hcm := cntMem (r := i) md
    refine ⟨_, _, rfl, .of upd_same, rfl, _, _, rfl, _, _, rfl, rfl, ?_⟩
    refine ⟨_, rfl, _, rfl, by show 1 ≤ sizeLine; decide, fun U nU => ?_⟩
    have sTU := Same.trans (sameNew (o := .tup [.int (j : Nat), x2]) nT) (sameNew (o := .tup [.int (j : Nat)]) nU)
    refine catUse (xs := nats ahead) (ys := [.int (j : Nat)]) (tupS (Same.trans sm sTU) hB) (.of upd_same) (by simp [nats]; omega) fun pl H2 s2 hpl => ?_
    have epl : nats ahead ++ [V.int (j : Nat)] = nats (ahead ++ [j]) := by simp [nats]
    rw [epl] at hpl
    have s02 := Same.trans sTU s2
    have sm2 : Same H H2 := Same.trans sm s02
    have hL2 : H2 L = some (.lst us) := s02 _ _ hL
    have hP2 := plcTS (tsOf s02) hP
    have lus : us.length ≤ 1000 := by
      have h1 := hP.len
      have h2 := loP_len (plD (i + 1) (rows.take j) ahead)
      have h3 := cntTake (r := i) (rows := rows) (j := j)
      rw [plLen] at h2
      omega
    have hd2 := dinSame sm2 hd
    clear hP hL nU nT s2 sTU
    obtain ⟨kd, rest, ek⟩ : ∃ kd rest, d = .tup (.str kd :: rest) := by
      rcases gKinds gd with ⟨b, s, rfl⟩ | ⟨w, rfl⟩ | ⟨r2, w, a, b, e, rfl, ga, gb⟩ | ⟨r2, w, ws, b, e, rfl, gb⟩ <;> exact ⟨_, _, rfl⟩
    have hdd := hd2
    rw [ek] at hdd
    cases hdd with
    | @tup ra _ _ hR hRA =>
    cases hRA with
    | cons h0 hA1 =>
    cases h0
    refine ⟨fun σ' H' => ∃ us' : List V, σ' = [some (.ref a), some (.ref b), some (.ref L), some (.int (j : Nat)), some (.ref ra), some (.ref pl), y6, y7] ∧ TS H2 H' ∧ Same H H' ∧ H' L = some (.lst us') ∧ us'.length ≤ 1001 ∧ A2 (PlcIn K H') us' (loP (plD (i + 1) (rows.take j) ahead ++ [(ahead ++ [j], d)])), ?_, ?_⟩
    · refine ⟨_, rfl, _, _, _, _, rfl, rfl, hR, atI_nat (j := 0) rfl, rfl, _, rfl, ?_⟩
      refine yesDec (fun c => ?_) (fun c => ?_)
      · refine ⟨_, rfl, .inl ⟨rfl, _, .of hL2⟩, _, rfl, L, us, _, rfl, rfl, hL2, by omega, us ++ [.ref pl], rfl, tsLst hL2, sameMut sm2 nL, upd_same, by simp; omega, ?_⟩
        rw [loP_app]
        refine (plcTS (tsLst hL2) hP2).app ?_
        have : isLp d = true := by rw [ek]; exact decide_eq_true (strEq.mp c)
        rw [loP_one this]
        exact .cons ⟨pl, rfl, tsTup (tsLst hL2) hpl⟩ .nil
      · refine ⟨us, rfl, TS.refl _, sm2, hL2, by omega, ?_⟩
        rw [loP_app]
        have : isLp d = false := by rw [ek]; exact decide_eq_false fun e => c (strEq.mpr e)
        rw [loP_no this, List.append_nil]
        exact hP2
    rintro σ' H3 ⟨us3, rfl, ts3, sm3, hL3, lus3, hP3⟩
    have hd3 : Din K H3 (.ref ra) d := dinSame sm3 hd
    have hpl3 := tsTup ts3 hpl
    refine ⟨_, rfl, .ref ra, d, many, rfl, hd3, gd.1, fun pw ws H4 npw s4 epw hws => ?_⟩
    refine ⟨pw, ws, rfl, .of epw, ?_⟩
    have lw := hws.len
    have sm4 := Same.trans sm3 s4
    have hpl4 := tupS s4 hpl3
    refine for_it (walkE (xs := ws)) (fun m σ H' => ∃ (us' : List V) (y6 y7 : Option V), σ = [some (.ref a), some (.ref b), some (.ref L), some (.int (j : Nat)), some (.ref ra), some (.ref pl), y6, y7] ∧ TS H4 H' ∧ Same H H' ∧ H' L = some (.lst us') ∧ us'.length ≤ 1001 + 1000 * m ∧
      A2 (PlcIn K H') us' (loP (plD (i + 1) (rows.take j) ahead ++ [(ahead ++ [j], d)] ++ ((inner d).take m).zipIdx.flatMap fun q => plD i (rowsOf q.1) (ahead ++ [j] ++ [q.2]))))
      ⟨us3, y6, y7, rfl, TS.refl _, sm4, s4 _ _ hL3, by omega, by simpa using plcTS (tsOf s4) hP3⟩ (fun m σ H' _ w => ?_) (fun m x σ H' H0' hm w y => ?_) (fun σ H' w => ?_)
    · obtain ⟨us', y6, y7, rfl, ts, _⟩ := w
      exact .of ((ts pw).1 ws epw)
    · obtain ⟨us', y6, y7, rfl, ts, sm5, hL5, lus5, hP5⟩ := w
      obtain ⟨T, z1, z2, rfl, nT, rfl, e3, e4⟩ := y
      cases e3
      obtain ⟨xi, exi, hxi⟩ := dinAt hws e4
      have mxi : xi ∈ inner d := List.mem_of_getElem? exi
      obtain ⟨r', rs, ei, rfl, grs⟩ := innerPure gd mxi
      have hpx : (D.tup rs).pure = true := by simpa [D.pure] using rowsPure grs
      have hxi5 := dinTS ts hpx hxi
      cases hxi5 with
      | @tup rx xr _ hxT hxA =>
      have hci := cntIn (r := i) mxi
      have li : (inner d).length ≤ 2 := by
        rcases gKinds gd with ⟨b, s, rfl⟩ | ⟨w, rfl⟩ | ⟨r2, w, a, b, e, rfl, ga, gb⟩ | ⟨r2, w, ws, b, e, rfl, gb⟩
        · rw [in_put]; decide
        · rw [in_say]; decide
        · rw [in_if]; simp
        · rw [in_loop]; simp
      refine ⟨_, _, rfl, .of upd_same, rfl, _, _, rfl, _, _, rfl, rfl, ?_⟩
      have sT := sameNew (o := .tup [.int (m : Nat), .ref rx]) nT
      refine ⟨_, rfl, .inl ⟨rfl, _, .of (sT _ _ hL5)⟩, _, rfl, _, rfl, _, rfl, by show 1 ≤ sizeLine; decide, fun U nU => ?_⟩
      have sTU := Same.trans sT (sameNew (o := .tup [.int (m : Nat)]) nU)
      refine catUse (xs := nats (ahead ++ [j])) (ys := [.int (m : Nat)]) (tupS sTU (tsTup ts hpl4)) (.of upd_same) (by simp [nats]; omega) fun p0 H6 s6 hp0 => ?_
      have e5 : nats (ahead ++ [j]) ++ [V.int (m : Nat)] = nats (ahead ++ [j] ++ [m]) := by simp [nats]
      rw [e5] at hp0
      have s56 := Same.trans sTU s6
      refine ⟨many, rx, p0, xr, rs, ahead ++ [j] ++ [m], rfl, tupS s56 hxT, dinASame s56 hxA, hp0, fun y hy => ⟨r', ei, grs y hy⟩, by omega, by simp; omega, by omega, by omega, fun c1 H7 us1 n1 s7 hc1 hP7 => ?_⟩
      have s57 := Same.trans s56 s7
      have lu1 : us1.length ≤ 1000 := by
        have h1 := hP7.len
        have h2 := loP_len (plD i rs (ahead ++ [j] ++ [m]))
        rw [plLen] at h2
        omega
      have hL7 := s57 _ _ hL5
      refine ⟨L, c1, us', us1, rfl, rfl, hL7, hc1, by omega, us' ++ us1, _, _, rfl, TS.trans ts (TS.trans (tsOf s57) (tsLst hL7)), sameMut (Same.trans sm5 s57) nL, upd_same, by simp; omega, ?_⟩
      rw [flatTake exi, ← List.append_assoc, loP_app]
      exact (plcTS (TS.trans (tsOf s57) (tsLst hL7)) hP5).app (plcTS (tsLst hL7) hP7)
    · obtain ⟨us', y6, y7, rfl, ts, sm5, hL5, lus5, hP5⟩ := w
      refine ⟨us', _, _, _, _, _, rfl, sm5, hL5, ?_⟩
      rw [lw, List.take_length] at hP5
      rw [plTake ed]
      simpa [plRow, List.append_assoc] using hP5
  · obtain ⟨us, y3, y4, y5, y6, y7, rfl, sm, hL, hP⟩ := w
    rw [lA, List.take_length] at hP
    exact ⟨_, rfl, q L H' us nL sm hL hP⟩
theorem lkRows {a b : V} : List.lookup ("rows" : Str) ([(("_tops" : Str), a), (("rows" : Str), b)] : List (Str × V)) = some b := by
  have h : (("rows" : Str) == "_tops") = false := by decide +kernel
  simp [List.lookup, h]
abbrev s_Program_loops : Stmt := inClass (topS 13) 3
theorem sc_Program_loops : FnScope ["self"] ["self"] (defScope s_Program_loops) := ⟨rfl, rfl, rfl, by decide +kernel, rfl, by decide +kernel, by decide +kernel⟩

def spLoops (K : PySem.W.Frag) (C : Addr) : Sp := fun vs H Q _ => ∃ (many : Nat) (x a : Addr) (tops : List Int) (xs : List V) (rows : List D), vs = [.ref x] ∧ PrIn K H C x tops (.ref a) ∧ SqT K H a xs ∧ DinA K H xs rows ∧ (∀ d ∈ rows, GRow many 3 d) ∧ cnt 4 (.tup rows) ≤ 1000 ∧
  ∀ (p : Addr) (H' : Hp) (us : List V), H p = none → Same H H' → H' p = some (.lst us) → A2 (PlcIn K H') us (loP (plD 4 rows [])) → Q (.ref p) H'
theorem ok_loops {f C : Addr} {fd : FuncData} {k : Nat} (F : Fun K "loops" "Program.loops" s_Program_loops f fd) (cp : ClsP K C) (c__loops_among : C8.Cal P w K mg base k "_loops_among" (spLo K 4) []) : FnOk P w K mg base CX0 (k + 1) f fd ["self"] (spLoops K C) := by
  refine F.ok sc_Program_loops (fun vs H Q E h => ?_) (fun cdv A outer s H vs Q E hr h => ?_)
  · obtain ⟨many, x, a, tops, xs, rows, rfl, _⟩ := h
    rfl
  obtain ⟨many, x, a, tops, xs, rows, rfl, ⟨dx, t, hx, ht⟩, hT, hA, hg, hc, q⟩ := h
  refine ⟨_, (pss_one (ps_ret (C8.pe_c c__loops_among hr (Nat.le_refl _) (by rfl) (pa_cons (pe_fld (pv 0) rfl) (pa_cons (pe_tup pa_nil) pa_nil))))), ?_⟩
  refine ⟨_, rfl, x, C, dx, _, _, rfl, hx, cp.cl, cp.n2, lkRows, by show 0 ≤ sizeLine; decide, fun Z nZ => ?_⟩
  exact ⟨many, a, Z, xs, rows, [], rfl, tupS (sameNew nZ) hT, dinASame (sameNew nZ) hA, .of upd_same, fun d hd => ⟨3, rfl, hg d hd⟩, by decide, by simp, by decide, hc, fun p H' us np sm hp hP => q p H' us (Same.free (sameNew nZ) np) (Same.trans (sameNew nZ) sm) hp hP⟩
theorem rgc2 : ∀ m : Nat, m < 60 → RgC 1 ((1 + 2 * m : Nat) : Int) 2 m := by
  unfold RgC
  decide +kernel
theorem look_even : ∀ {d d' : D} {p : List Nat}, look1 d p = some d' → ∃ m, p.length = 2 * m
  | _, _, [], _ => ⟨0, rfl⟩
  | _, _, [_], h => by cases h
  | d, d', w :: n :: rest, h => by
    simp only [look1] at h
    cases e1 : (inner d)[w]? with
    | none => rw [e1] at h; cases h
    | some x =>
      rw [e1] at h
      simp only [Option.bind_some] at h
      cases e2 : (rowsOf x)[n]? with
      | none => rw [e2] at h; cases h
      | some y =>
        rw [e2] at h
        obtain ⟨m, hm⟩ := look_even h
        exact ⟨m + 1, by simp [hm]; omega⟩
abbrev s_Program_row : Stmt := inClass (topS 13) 2
theorem sc_Program_row : FnScope ["self", "place", "found", "at"] ["self", "place"] (defScope s_Program_row) := ⟨rfl, rfl, rfl, by decide +kernel, rfl, by decide +kernel, by decide +kernel⟩

def spRowAt (K : PySem.W.Frag) (C : Addr) : Sp := fun vs H Q _ => ∃ (many : Nat) (x a pa : Addr) (tops : List Int) (xs : List V) (rows : List D) (p : List Nat) (d : D), vs = [.ref x, .ref pa] ∧ PrIn K H C x tops (.ref a) ∧ SqT K H a xs ∧ DinA K H xs rows ∧ (∀ d ∈ rows, GRow many 3 d) ∧ SqT K H pa (nats p) ∧ lookR rows p = some d ∧ p.length ≤ 100 ∧
  ∀ (H' : Hp) (v : V), Same H H' → Din K H' v d → Q v H'
theorem ok_row {f C : Addr} {fd : FuncData} {k : Nat} (F : Fun K "row" "Program.row" s_Program_row f fd) (B : Bl mg) (cp : ClsP K C) (c_rows_within : C8.Cal P w K mg base k "rows_within" (spWithin K) []) : FnOk P w K mg base CX0 (k + 1) f fd ["self", "place"] (spRowAt K C) := by
  refine F.ok sc_Program_row (fun vs H Q E h => ?_) (fun cdv A outer s H vs Q E hr h => ?_)
  · obtain ⟨many, x, a, pa, tops, xs, rows, p, d, rfl, _⟩ := h
    rfl
  obtain ⟨many, x, a, pa, tops, xs, rows, p, d, rfl, ⟨dx, t, hx, ht⟩, hT, hA, hg, hp, hl, hpl, q⟩ := h
  refine ⟨_, (pss_cons (ps_set (i := 2) sc_Program_row.nd rfl (.inl rfl) (pe_ix (kIxT (K := K) rfl) (pe_fld (pv 0) rfl) (pe_ix (kIxT (K := K) rfl) (pv 1) pe_int (fun _ _ => rfl)) (fun _ _ => rfl)))
    (pss_cons (ps_for PassesOwn.never rfl (pi_range3 (by rfl) B.range (pa_cons pe_int (pa_cons (pe_callB (kLen (K := K) rfl) (by rfl) B.len PySem.boot_len (pa_cons (pv 1) pa_nil)) (pa_cons pe_int pa_nil)))) (pg_name (i := 3) sc_Program_row.nd rfl (.inl rfl))
      (pss_one (ps_set (i := 2) sc_Program_row.nd rfl (.inl rfl) (pe_ix (kIxT (K := K) rfl) (pe_ix (kIxT (K := K) rfl) (C8.pe_c c_rows_within hr (Nat.le_refl _) (by rfl) (pa_cons (pv 2) pa_nil)) (pe_ix (kIxT (K := K) rfl) (pv 1) (pv 3) (fun _ _ => rfl)) (fun _ _ => rfl)) (pe_ix (kIxT (K := K) rfl) (pv 1) (pe_op op_add (pv 3) pe_int) (fun _ _ => rfl)) (fun _ _ => rfl)))))
    (pss_one (ps_ret (pv 2))))), ?_⟩
  cases p with
  | nil => cases hl
  | cons n rest =>
  obtain ⟨d0, ed0, hl1⟩ : ∃ d0, rows[n]? = some d0 ∧ look1 d0 rest = some d := by
    simp only [lookR] at hl
    cases e : rows[n]? with
    | none => rw [e] at hl; cases hl
    | some d0 => rw [e] at hl; exact ⟨d0, rfl, hl⟩
  obtain ⟨v0, ev0, hd0⟩ := dinAtD hA ed0
  obtain ⟨m, hm⟩ := look_even hl1
  refine ⟨_, rfl, x, C, dx, _, _, rfl, hx, cp.cl, cp.n2, lkRows, _, rfl, _, _, _, _, rfl, rfl, hp, atI_nat (j := 0) rfl, _, _, _, _, rfl, rfl, hT, atI_nat ev0, ?_⟩
  have ln : (nats (n :: rest)).length = 1 + 2 * m := by simp [nats, hm]; omega
  simp only [List.length_cons] at hpl
  refine ⟨_, rfl, _, _, rfl, .inr hp, 1, _, 2, m, rfl, by rw [ln]; exact rgc2 m (by omega), ?_⟩
  refine for_rangeC (lo := 1) (c := 2) (n := m) (fun i σ H' => ∃ (v : V) (di : D) (r : Nat) (y3 : Option V), σ = [some (.ref x), some (.ref pa), some v, y3] ∧ Same H H' ∧ Din K H' v di ∧ look1 di (rest.drop (2 * i)) = some d ∧ GRow many r di)
    ⟨v0, d0, 3, none, rfl, Same.refl _, hd0, by simpa using hl1, hg d0 (List.mem_of_getElem? ed0)⟩ (fun i σ H' hi w => ?_) (fun σ H' w => ?_)
  · obtain ⟨v, di, r, y3, rfl, sm, hv, hlk, gi⟩ := w
    obtain ⟨w', n', r', er⟩ : ∃ w' n' r', rest.drop (2 * i) = w' :: n' :: r' := by
      have : (rest.drop (2 * i)).length = 2 * (m - i) := by rw [List.length_drop, hm]; omega
      cases e : rest.drop (2 * i) with
      | nil => rw [e] at this; simp at this; omega
      | cons a t =>
        cases t with
        | nil => rw [e] at this; simp at this; omega
        | cons b t => exact ⟨a, b, t, rfl⟩
    rw [er] at hlk
    have g0 : rest[2 * i]? = some w' := by
      have := congrArg (fun l => l[0]?) er
      simpa using this
    have g1 : rest[2 * i + 1]? = some n' := by
      have := congrArg (fun l => l[1]?) er
      simpa using this
    obtain ⟨z, ez, hl2⟩ : ∃ z, (inner di)[w']? = some z ∧ ((rowsOf z)[n']?).bind (fun d' => look1 d' r') = some d := by
      simp only [look1] at hlk
      cases e : (inner di)[w']? with
      | none => rw [e] at hlk; cases hlk
      | some z => rw [e] at hlk; exact ⟨z, rfl, hlk⟩
    obtain ⟨r2, rs, e2, rfl, grs⟩ := innerPure gi (List.mem_of_getElem? ez)
    obtain ⟨d', ed', hl3⟩ : ∃ d', rs[n']? = some d' ∧ look1 d' r' = some d := by
      simp only [rowsOf] at hl2
      cases e : rs[n']? with
      | none => rw [e] at hl2; cases hl2
      | some d' => rw [e] at hl2; exact ⟨d', rfl, hl2⟩
    have a0 : (nats (n :: rest))[1 + 2 * i]? = some (.int (w' : Nat)) := natsAt (by rw [show 1 + 2 * i = 2 * i + 1 by omega, List.getElem?_cons_succ]; exact g0)
    have a1 : (nats (n :: rest))[1 + 2 * i + 1]? = some (.int (n' : Nat)) := natsAt (by rw [show 1 + 2 * i + 1 = (2 * i + 1) + 1 by omega, List.getElem?_cons_succ]; exact g1)
    refine ⟨_, rfl, v, di, many, rfl, hv, gi.1, fun pw ws H4 npw s4 epw hws => ?_⟩
    obtain ⟨vz, evz, hz⟩ := dinAtD hws ez
    cases hz with
    | @tup rz xz _ hzT hzA =>
    obtain ⟨vd, evd, hvd⟩ := dinAtD hzA ed'
    have hp4 := tupS (Same.trans sm s4) hp
    refine ⟨_, rfl, _, rfl, _, _, _, _, rfl, rfl, hp4, (by rw [show (1 : Int) + (i : Int) * 2 = ((1 + 2 * i : Nat) : Int) by omega]; exact atI_nat a0), _, _, _, _, rfl, rfl, .of epw, atI_nat evz, ?_⟩
    refine ⟨_, rfl, _, rfl, _, _, rfl, rfl, _, _, _, _, rfl, rfl, hp4, (by rw [show (1 : Int) + (i : Int) * 2 + 1 = ((1 + 2 * i + 1 : Nat) : Int) by omega]; exact atI_nat a1), _, _, _, _, rfl, rfl, hzT, atI_nat evd, ?_⟩
    refine ⟨vd, d', r2, _, rfl, Same.trans sm s4, hvd, ?_, grs d' (List.mem_of_getElem? ed')⟩
    have : rest.drop (2 * (i + 1)) = r' := by
      rw [show 2 * (i + 1) = 2 * i + 2 by omega, ← List.drop_drop, er]
      rfl
    rw [this]
    exact hl3
  · obtain ⟨v, di, r, y3, rfl, sm, hv, hlk, gi⟩ := w
    rw [List.drop_of_length_le (by omega)] at hlk
    cases hlk
    exact ⟨_, rfl, q H' v sm hv⟩

end

end LW

namespace LW
open PySem PySem.Spec PyProof.Rows L2
local macro_rules | `(tactic| walk_at "go1") => `(tactic| first
  | refine ⟨_, rfl, ?_⟩
  | refine ⟨_, _, rfl, rfl, ?_⟩
  | refine ⟨show (0 : Int) < _ from by omega, ?_⟩
  | refine ⟨show CMul _ _ from by first | exact .inl ⟨by omega, by omega⟩ | exact .inr ⟨by omega, by omega⟩, ?_⟩
  | refine ⟨show CDiv _ _ from ⟨by omega, by omega⟩, ?_⟩)
local macro_rules | `(tactic| walk_at "go") => `(tactic| repeat walk_at "go1")

section
variable {P : Program} {w : World} {K : PySem.W.Frag} {mg : Str → Option Value} {base : Heap}

theorem passW {X : Cx} {W : WX} {n : Nat} (hn : X.N.length = n) (tk : Takes X W) : Passes (L2.CX X.prog X.w) X (fun cls d H => ∀ σ : L2.St, σ.length = n → W cls d σ H) := fun _ σ _ _ e s' I c => tk e s' (XE.of_call I (fun cls d H h => h σ (I.len.trans hn)) c)
theorem pssWhen {X : Cx} {p : Prop} {b : List Stmt} {t : L2.TS} (h : p → PSs X b t) : PSs X b (fun D σ H => p ∧ t D σ H) := ⟨fun pins s σ H D I q => (h q.1).run pins s σ H D I q.2⟩
theorem zcOf {CB : Addr} {cls : Value} {d : Option Addr} {oe : Obj} (hc : cls = .ref CB ∧ d = none) (hz : Zc cls d oe) : Zc (.ref CB) none oe := by
  obtain ⟨rfl, rfl⟩ := hc
  exact hz
theorem raisesBad {K : PySem.W.Frag} {H : Hp} {C CB x dx : Addr} {tv rv : V} {Q : VK} {E : XK} (h : BadPair K H tv rv) (hx : H x = some (.ins C dx [])) (e : ∀ H', Same H H' → E (.ref CB) none H') : spInit K C CB [.ref x, tv, rv] H Q E := by
  rcases h with ⟨d, hd, ty⟩ | ⟨a, xs, ds, rfl, h1, h2, h3⟩
  · exact ⟨x, dx, tv, rv, rfl, hx, .inl ⟨⟨d, hd, ty⟩, e⟩⟩
  · refine ⟨x, dx, _, rv, rfl, hx, .inr ⟨a, xs, ds, rfl, h1, h2, fun _ => e, fun ht => ?_⟩⟩
    rcases h3 with h | ⟨_, _, d, hd, hc⟩
    · rw [h] at ht
      cases ht
    · refine ⟨d, hd, fun _ => e, fun n hn => ?_⟩
      rw [hc] at hn
      cases hn
abbrev s__law_refused : Stmt := topS 40
theorem sc__law_refused : FnScope ["_law_tops_here", "_law_rows_here", "e"] ["_law_tops_here", "_law_rows_here"] (defScope s__law_refused) := ⟨rfl, rfl, rfl, by decide +kernel, rfl, by decide +kernel, by decide +kernel⟩

def spRef (K : PySem.W.Frag) : Sp := fun vs H Q _ => ∃ (tv rv : V), vs = [tv, rv] ∧ BadPair K H tv rv ∧ ∀ H', Same H H' → Q (.bl true) H'
/-- what is told of the classes of errors -/
structure ErrF (K : PySem.W.Frag) (mg : Str → Option Value) (CB : Addr) (BF NL LE : Addr) : Prop where
  exC : ExcC K CB
  eP : PySem.W.exmOne K (.ref CB) (.ref CB) = some true
  gBF : mg "BadFilling" = some (.ref BF)
  gNL : mg "NoLoop" = some (.ref NL)
  gLE : mg "LoopError" = some (.ref LE)
  nVE : mg "ValueError" = none
  kBF : PySem.W.kitOne K (.ref CB) (.ref BF) = some false
  kNL : PySem.W.kitOne K (.ref CB) (.ref NL) = some false
  kLE : PySem.W.kitOne K (.ref CB) (.ref LE) = some true
  kVE : PySem.W.kitOne K (.ref CB) (.type "ValueError") = some true
theorem ok__law_refused {f C CB BF NL LE : Addr} {fd : FuncData} {k : Nat} (F : Fun K "_law_refused" "_law_refused" s__law_refused f fd) (B : Bl mg) (EF : ErrF K mg CB BF NL LE) (XBadProgram : ExF K mg "BadProgram" CB) (q_Program : CalC P w K mg base k C "Program" (spInit K C CB)) : FnOk P w K mg base CX0 (k + 2) f fd ["_law_tops_here", "_law_rows_here"] (spRef K) := by
  have exC := EF.exC
  have gBadFilling := EF.gBF
  have gNoLoop := EF.gNL
  have gLoopError := EF.gLE
  have nVE := EF.nVE
  refine F.ok sc__law_refused (fun vs H Q E h => ?_) (fun cdv A outer s H vs Q E hr h => ?_)
  · obtain ⟨tv, rv, rfl, _⟩ := h
    rfl
  obtain ⟨tv, rv, rfl, hb, q⟩ := h
  refine ⟨_, (pss_cons (ps_try_as (i := 2) rfl rfl sc__law_refused.nd rfl rfl ⟨rfl, by decide, .inl XBadProgram.gP⟩ takes0 (fun W pn xe tk _ => (pss_one (ps_expr (pC q_Program hr (by omega) (passW (n := 3) rfl tk) (pa_cons (pv 0) (pa_cons (pv 1) pa_nil))))))
      (fun a oe cls d pn hz hf => pssWhen (fun hc => (pss_cons (ps_if (PW.pt (pw_or (pt_val (pe_callB (call_isE exC (zcOf hc hz) hf) (by rfl) B.isinstance (by decide +kernel) (pa_cons (pv 2) (pa_cons (pe_glob (v := .ref BF) (by rfl) gBadFilling rfl) pa_nil)))) (pw_or1 (pt_val (pe_callB (call_isE exC (zcOf hc hz) hf) (by rfl) B.isinstance (by decide +kernel) (pa_cons (pv 2) (pa_cons (pe_glob (v := .ref NL) (by rfl) gNoLoop rfl) pa_nil)))))))
          (pss_one (ps_ret pe_bl))
          pss_nil)
        (pss_one (ps_ret (pe_and (pe_callB (call_isE exC (zcOf hc hz) hf) (by rfl) B.isinstance (by decide +kernel) (pa_cons (pv 2) (pa_cons (pe_glob (v := .ref LE) (by rfl) gLoopError rfl) pa_nil))) (pe_one (pe_callB (call_isE exC (zcOf hc hz) hf) (by rfl) B.isinstance (by decide +kernel) (pa_cons (pv 2) (pa_cons (pe_bltn (v := .ty "ValueError") (by rfl) nVE (by decide +kernel) rfl) pa_nil)))))))))))
    (pss_one (ps_ret pe_bl))), ?_⟩
  refine ⟨_, rfl, _, rfl, fun x dx nx ndx nex => ?_⟩
  have s1 : Same H (upd (upd H dx (.own x)) x (.ins C dx [])) := Same.trans (sameNew ndx) (sameNew (by rw [upd_ne (Ne.symm nex)]; exact nx))
  refine raisesBad (badSame s1 hb) upd_same fun H2 s2 σ hσ => ?_
  obtain ⟨y0, y1, y2, rfl⟩ : ∃ y0 y1 y2, σ = [y0, y1, y2] := by
    match σ, hσ with
    | [y0, y1, y2], _ => exact ⟨y0, y1, y2, rfl⟩
  refine ⟨true, EF.eP, fun _ a na => ⟨⟨rfl, rfl⟩, ?_⟩, fun z => nomatch z⟩
  refine ⟨_, rfl, _, _, false, rfl, fun u h => h, EF.kBF, _, rfl, ?_⟩
  refine iteF ⟨_, rfl, _, _, false, rfl, fun u h => h, EF.kNL, _, rfl, ?_⟩
  refine iteF ⟨_, rfl, _, _, true, rfl, fun u h => h, EF.kLE, _, rfl, ?_⟩
  refine iteT ⟨_, rfl, _, _, true, rfl, fun u h => h, EF.kVE, ?_⟩
  exact q _ (Same.trans s1 s2)

end

end LW

namespace LW
open PySem PySem.Spec PyProof.Rows L2
local macro_rules | `(tactic| walk_at "go1") => `(tactic| first
  | refine ⟨_, rfl, ?_⟩
  | refine ⟨_, _, rfl, rfl, ?_⟩
  | refine ⟨show (0 : Int) < _ from by omega, ?_⟩
  | refine ⟨show CMul _ _ from by first | exact .inl ⟨by omega, by omega⟩ | exact .inr ⟨by omega, by omega⟩, ?_⟩
  | refine ⟨show CDiv _ _ from ⟨by omega, by omega⟩, ?_⟩)
local macro_rules | `(tactic| walk_at "go") => `(tactic| repeat walk_at "go1")

section
variable {P : Program} {w : World} {K : PySem.W.Frag} {mg : Str → Option Value} {base : Heap}

theorem dpPlc {K : PySem.W.Frag} {H : Hp} : ∀ {vs : List V} {ps : List (List Nat)}, A2 (PlcIn K H) vs ps → DpAll K H vs (ps.map dPl)
  | _, _, .nil => .nil
  | _, _, .cons ⟨pa, e, h⟩ t => by
    subst e
    exact .cons (.tup h (dpNats _)) (dpPlc t)
theorem lyPlc (ps : List (List Nat)) : Ly 3 (.list (ps.map dPl)) := lyLst (lyAll fun d hd => by
  obtain ⟨p, _, rfl⟩ := List.mem_map.mp hd
  exact lyPl p)
theorem dpTops {K : PySem.W.Frag} {H : Hp} {a : Addr} {tops : List Int} (h : SqL K H a (tops.map V.int)) : Dp K H (.ref a) (.list (dI tops)) := .lst h (dpInts tops)
theorem lyTops (tops : List Int) : Ly 2 (.list (dI tops)) := lyLst (lyInts tops)
def KeptIn (K : PySem.W.Frag) (H : Hp) (t f g : Addr) (us : List V) (ps : List (List Nat)) : Prop := H t = some (.tup [.ref f, .ref g]) ∧ H f = some (.lst us) ∧ H g = some (.lst us) ∧ A2 (PlcIn K H) us ps
theorem lkNo {m : Str} {a b : V} (h : (m == "_tops") = false ∧ (m == "rows") = false) : List.lookup m ([(("_tops" : Str), a), (("rows" : Str), b)] : List (Str × V)) = none := by
  simp [List.lookup, h.1, h.2]
abbrev s__law_right : Stmt := topS 41
theorem sc__law_right : FnScope ["_law_program_here", "_law_tops_here", "_law_rows_here", "_law_kept", "_law_places_here", "_law_place", "_law_row_here", "_law_found", "_law_due"] ["_law_program_here", "_law_tops_here", "_law_rows_here", "_law_kept"] (defScope s__law_right) := ⟨rfl, rfl, rfl, by decide +kernel, rfl, by decide +kernel, by decide +kernel⟩

def spRight (K : PySem.W.Frag) (C : Addr) : Sp := fun vs H Q _ => ∃ (many : Nat) (x tp a kp : Addr) (tops : List Int) (xs : List V) (rows : List D) (ks : List V), vs = [.ref x, .ref tp, .ref a, .ref kp] ∧ PrIn K H C x tops (.ref a) ∧ H tp = some (.lst (tops.map V.int)) ∧ SqT K H a xs ∧ DinA K H xs rows ∧ (∀ d ∈ rows, GRow many 3 d) ∧ cnt 4 (.tup rows) ≤ 30 ∧
  H kp = some (.lst ks) ∧ ks.length ≤ 100 ∧ ∀ (H' : Hp) (t f g : Addr) (us : List V) (ps : List (List Nat)), But kp H H' → H' kp = some (.lst (ks ++ [.ref t])) → H t = none → H f = none → H g = none → KeptIn K H' t f g us ps → us.length ≤ 100 → Q (.bl true) H'
theorem ok__law_right {f C : Addr} {fd : FuncData} {k : Nat} (F : Fun K "_law_right" "_law_right" s__law_right f fd) (B : Bl mg) (cp : ClsP K C) (qcl : Cls K C) (q_tops : CalP P w K mg base k C "tops" (spTopsP K C)) (q_row : CalM P w K mg base (k + 1) C "row" (spRowAt K C)) (q_loops : CalM P w K mg base (k + 1) C "loops" (spLoops K C))
    (c__law_places : C8.Cal P w K mg base (k + 1) "_law_places" (spPl K 4) []) : FnOk P w K mg base CX0 (k + 2) f fd ["_law_program_here", "_law_tops_here", "_law_rows_here", "_law_kept"] (spRight K C) := by
  refine F.ok sc__law_right (fun vs H Q E h => ?_) (fun cdv A outer s H vs Q E hr h => ?_)
  · obtain ⟨many, x, tp, a, kp, tops, xs, rows, ks, rfl, _⟩ := h
    rfl
  obtain ⟨many, x, tp, a, kp, tops, xs, rows, ks, rfl, hp, htp, hT, hA, hg, hc, hkp, hkl, q⟩ := h
  refine ⟨_, (pss_cons (ps_if (PW.pt (pw_or (pt_not (pt_val (pe_callB (kIsi (K := K) rfl) (by rfl) B.isinstance (by decide +kernel) (pa_cons (pP q_tops qcl hr (by omega) (pv 0)) (pa_cons (pe_bltn (v := .ty "list") (by rfl) B.list (by decide +kernel) rfl) pa_nil))))) (pw_or (pt_cmpR (kNeD (K := K) rfl hr.units) (pP q_tops qcl hr (by omega) (pv 0)) (pv 1) (nomark _)) (pw_or1 (pt_cmpR (kNeD (K := K) rfl hr.units) (pe_fld (pv 0) rfl) (pv 2) (nomark _))))))
      (pss_one (ps_ret pe_bl))
      pss_nil)
    (pss_cons (ps_set (i := 4) sc__law_right.nd rfl (.inl rfl) (C8.pe_c c__law_places hr (Nat.le_refl _) (by rfl) (pa_cons (pv 2) (pa_cons (pe_tup pa_nil) pa_nil))))
    (pss_cons (ps_for PassesOwn.never rfl (kList_ (K := K) rfl (pv 4)) (kT2 (K := K) rfl rfl (pg_name (i := 5) sc__law_right.nd rfl (.inl rfl)) (pg_name (i := 6) sc__law_right.nd rfl (.inl rfl)))
      (pss_one (ps_if (pt_cmpR (kNeD (K := K) rfl hr.units) (pM q_row qcl hr (by omega) (pv 0) (pa_cons (pv 5) pa_nil)) (pv 6) (nomark _))
        (pss_one (ps_ret pe_bl))
        pss_nil)))
    (pss_cons (ps_set (i := 7) sc__law_right.nd rfl (.inl rfl) (pM0 q_loops qcl hr (by omega) (pv 0)))
    (pss_cons (ps_setLc (i := 8) (own := [("_law_place", 5), ("_law_row_here", 6)]) rfl sc__law_right.nd rfl rfl (sw_true rfl rfl rfl (by decide +kernel)) (kList_ (K := K) rfl (pv 4)) (blkOk_by (own := [("_law_place", 5), ("_law_row_here", 6)]) (N := ["_law_program_here", "_law_tops_here", "_law_rows_here", "_law_kept", "_law_places_here", "_law_place", "_law_row_here", "_law_found", "_law_due"]) (sc := defScope s__law_right) (by decide +kernel)) (fun _ _ _ _ _ => (pgT2 (K := K) rfl (pgN (i := 5) sc__law_right.nd rfl (.inl rfl) (.inr rfl)) (pgN (i := 6) sc__law_right.nd rfl (.inl rfl) (.inr rfl)) rfl (by rfl) (by rfl) (by rfl) (by rfl))) (fun _ _ _ _ _ => (pts_one (pt_cmpR op_eq (pe_ix (kIxT (K := K) rfl) (pv 6) pe_int (fun _ _ => rfl)) pe_str (nomark _)))) (fun _ _ _ _ _ => (pv 5)))
    (pss_cons (ps_if (PW.pt (pw_or (pt_not (pt_val (pe_callB (kIsi (K := K) rfl) (by rfl) B.isinstance (by decide +kernel) (pa_cons (pv 7) (pa_cons (pe_bltn (v := .ty "list") (by rfl) B.list (by decide +kernel) rfl) pa_nil))))) (pw_or1 (pt_cmpR (kNeD (K := K) rfl hr.units) (pv 7) (pv 8) (nomark _)))))
      (pss_one (ps_ret pe_bl))
      pss_nil)
    (pss_cons (ps_expr (pe_bm PySem.F.plainAttrs_list PySem.F.slot_list_append PySem.F.type_list_append mt_append (pv 7) (pa_cons (pe_tup pa_nil) pa_nil)))
    (pss_cons (ps_expr (pe_bm PySem.F.plainAttrs_list PySem.F.slot_list_append PySem.F.type_list_append mt_append (pv 3) (pa_cons (pe_tup (pa_cons (pv 7) (pa_cons (pe_callTy (kList (K := K) rfl) (by rfl) B.list (by decide +kernel) (pa_cons (pv 7) pa_nil)) pa_nil))) pa_nil)))
    (pss_one (ps_ret pe_bl)))))))))), ?_⟩
  have szl : (100000 : Nat) ≤ sizeLine := by decide
  have hp' := hp
  obtain ⟨dx, t0, hx, ht0⟩ := hp'
  have pr : D.pures rows = true := rowsPure hg
  have lyR := lyRows hg
  have dpR : ∀ {H' : Hp}, Same H H' → Dp K H' (.ref a) (toPy (.tup rows)) := fun e => dpD (by simpa [D.pure] using pr) (.tup (tupS e hT) (dinASame e hA))
  -- tops
  refine ⟨_, rfl, x, dx, _, rfl, hx, x, tops, _, rfl, hp, fun l1 H1 n1 s1 hl1 => ?_⟩
  refine ⟨_, _, _, _, true, rfl, .ty _, tyLst (.of hl1), kit_ty (by decide +kernel), _, rfl, ?_⟩
  refine iteF ?_
  refine ⟨_, rfl, x, dx, _, rfl, s1 _ _ hx, x, tops, _, rfl, prSame s1 hp, fun l2 H2 n2 s2 hl2 => ?_⟩
  have s02 := Same.trans s1 s2
  refine ⟨_, rfl, .list (dI tops), .list (dI tops), dpTops (.of hl2), dpTops (.of (s02 _ _ htp)), (lyTops tops).shaped (by decide), (lyTops tops).shaped (by decide), _, rfl, ?_⟩
  rw [(lyTops tops).same]
  refine iteF ?_
  refine ⟨_, rfl, x, C, dx, _, _, rfl, s02 _ _ hx, cp.cl, cp.n2, lkRows, _, rfl, toPy (.tup rows), toPy (.tup rows), dpR s02, dpR s02, lyR.shaped (by decide), lyR.shaped (by decide), _, rfl, ?_⟩
  rw [lyR.same]
  refine iteF ?_
  -- the places
  refine ⟨_, rfl, by show 0 ≤ sizeLine; decide, fun Z nZ => ?_⟩
  have s0Z := Same.trans s02 (sameNew (o := .tup []) nZ)
  refine ⟨many, a, Z, xs, rows, [], rfl, tupS s0Z hT, dinASame s0Z hA, .of upd_same, fun d hd => ⟨3, rfl, hg d hd⟩, by decide, by simp, by decide, by omega, fun pl H3 us npl s3 hpl hP => ?_⟩
  have s03 := Same.trans s0Z s3
  have hpp : ∀ p ∈ plD 4 rows [], GRow many 3 p.2 := plGood 4 rows [] hg
  refine ⟨_, rfl, _, rfl, ⟨_, .of hpl⟩, ?_⟩
  refine for_it (walk_list (xs := us)) (fun i σ H' => Same H3 H' ∧ ∃ (y5 y6 : Option V), σ = [some (.ref x), some (.ref tp), some (.ref a), some (.ref kp), some (.ref pl), y5, y6, none, none]) ⟨Same.refl _, none, none, rfl⟩ (fun i σ H' _ w => .of (w.1 _ _ hpl)) (fun i v σ H' H0' hi w y => ?_) (fun σ H4 w => ?_)
  · obtain ⟨sm, y5, y6, rfl⟩ := w
    obtain ⟨rfl, ex⟩ := y
    obtain ⟨p, ep, hp2⟩ := A2.at hP ex
    have mp := List.mem_of_getElem? ep
    obtain ⟨t, pa, rv, rfl, h1, h2, h3⟩ := hp2
    have s04 := Same.trans s03 sm
    obtain ⟨rest, e2, e3, e4⟩ := plLook 4 rows [] p mp
    rw [List.nil_append] at e2
    subst e2
    refine ⟨_, _, rfl, tupS sm h1, rfl, _, _, rfl, _, _, rfl, rfl, ?_⟩
    refine ⟨_, rfl, x, dx, _, rfl, s04 _ _ hx, lkNo (by decide +kernel), _, rfl, many, x, a, pa, tops, xs, rows, p.1, p.2, rfl, prSame s04 hp, tupS s04 hT, dinASame s04 hA, hg, tupS sm h2, e3, by omega, fun H5 v5 s5 hv5 => ?_⟩
    have ly := lyRow 3 (hpp p mp)
    have pu := (hpp p mp).2.1
    refine ⟨_, rfl, toPy p.2, toPy p.2, dpD pu hv5, dpD pu (dinSame (Same.trans sm s5) h3), ly.shaped (by decide), ly.shaped (by decide), _, rfl, ?_⟩
    rw [ly.same]
    exact iteF ⟨Same.trans sm s5, _, _, rfl⟩
  obtain ⟨sm, y5, y6, rfl⟩ := w
  have s04 := Same.trans s03 sm
  refine ⟨_, rfl, x, dx, _, rfl, s04 _ _ hx, lkNo (by decide +kernel), many, x, a, tops, xs, rows, rfl, prSame s04 hp, tupS s04 hT, dinASame s04 hA, hg, by omega, fun fl H5 vs nfl s5 hfl hF => ?_⟩
  have s05 := Same.trans s04 s5
  have hpl5 := (Same.trans sm s5) _ _ hpl
  have hP5 : PlL K H5 us (plD 4 rows []) := plTS (tsOf (Same.trans sm s5)) (fun p hp => (hpp p hp).2.1) hP
  have lus : us.length ≤ 30 := by
    have := hP.len
    rw [plLen] at this
    omega
  refine ⟨_, rfl, _, rfl, ⟨_, .of hpl5⟩, fun Dd nD => ?_⟩
  refine lc_it (walk_list (xs := us)) (fun i H' => Same H5 H' ∧ ∃ (ws : List V), H' Dd = some (.lst ws) ∧ ws.length ≤ i ∧ A2 (PlcIn K H') ws (loP ((plD 4 rows []).take i))) ⟨sameNew nD, [], upd_same, Nat.le_refl _, by rw [List.take_zero]; exact .nil⟩ (fun i H' _ w => .of (w.1 _ _ hpl5)) (fun i v H' H0' hi w y => ?_) (fun H6 w => ?_)
  · obtain ⟨sm6, ws, hD, hwl, hW⟩ := w
    obtain ⟨rfl, ex⟩ := y
    obtain ⟨p, ep, hp2⟩ := A2.at hP5 ex
    have mp := List.mem_of_getElem? ep
    obtain ⟨t, pa, rv, rfl, h1, h2, h3⟩ := hp2
    obtain ⟨kd, rest, ek⟩ : ∃ kd rest, p.2 = .tup (.str kd :: rest) := by
      rcases gKinds (hpp p mp) with ⟨b, s, e⟩ | ⟨w, e⟩ | ⟨r2, w, a, b, _, e, _⟩ | ⟨r2, w, ws, b, _, e, _⟩ <;> exact ⟨_, _, e⟩
    rw [ek] at h3
    cases h3 with
    | @tup ra _ _ hR hRA =>
    cases hRA with
    | cons h0 hA1 =>
    cases h0
    refine ⟨_, _, rfl, tupS sm6 h1, rfl, _, _, rfl, _, _, rfl, rfl, rfl, ?_⟩
    have et : (plD 4 rows []).take (i + 1) = (plD 4 rows []).take i ++ [p] := by
      obtain ⟨hi2, e⟩ := List.getElem?_eq_some_iff.mp ep
      rw [List.take_succ_eq_append_getElem hi2, e]
    refine ⟨_, rfl, _, _, _, _, rfl, rfl, tupS sm6 hR, atI_nat (j := 0) rfl, rfl, _, rfl, ?_⟩
    refine yesDec (fun c => ?_) (fun c => ?_)
    · refine ⟨_, rfl, ws, hD, by omega, sameMut sm6 nD, _, upd_same, by simp; omega, ?_⟩
      rw [et, loP_app]
      have : isLp p.2 = true := by rw [ek]; exact decide_eq_true (strEq.mp c)
      rw [show [p] = [(p.1, p.2)] from rfl, loP_one this]
      exact (plcTS (tsLst hD) hW).app (.cons ⟨pa, rfl, tsTup (tsLst hD) (tupS sm6 h2)⟩ .nil)
    · refine ⟨sm6, ws, hD, by omega, ?_⟩
      rw [et, loP_app]
      have : isLp p.2 = false := by rw [ek]; exact decide_eq_false fun e => c (strEq.mpr e)
      rw [show [p] = [(p.1, p.2)] from rfl, loP_no this, List.append_nil]
      exact hW
  obtain ⟨sm6, ws, hD, hwl, hW⟩ := w
  have s06 := Same.trans s05 sm6
  have lpl : us.length = (plD 4 rows []).length := hP.len
  rw [lpl, List.take_length] at hW
  have hfl6 := sm6 _ _ hfl
  have hF6 := plcTS (tsOf sm6) hF
  refine ⟨_, rfl, _, _, _, _, true, rfl, .ty _, tyLst (.of hfl6), kit_ty (by decide +kernel), _, rfl, ?_⟩
  refine iteF ?_
  refine ⟨_, rfl, _, rfl, .list ((loP (plD 4 rows [])).map dPl), .list ((loP (plD 4 rows [])).map dPl), .lst (.of hfl6) (dpPlc hF6), .lst (.of hD) (dpPlc hW), (lyPlc _).shaped (by decide), (lyPlc _).shaped (by decide), _, rfl, ?_⟩
  rw [(lyPlc _).same]
  refine iteF ?_
  have lvs : vs.length ≤ 30 := by
    have h1 := hF.len
    have h2 := loP_len (plD 4 rows [])
    omega
  have nflH : H fl = none := Same.free s04 nfl
  -- kept
  refine ⟨_, rfl, .inl ⟨rfl, _, .of hfl6⟩, by show 0 ≤ sizeLine; decide, fun Z2 nZ2 => ?_⟩
  have hfl7 := sameNew (o := .tup []) nZ2 _ _ hfl6
  refine ⟨fl, vs, _, rfl, rfl, hfl7, by omega, ?_⟩
  have s08 := sameMut (o := .lst (vs ++ [.ref Z2])) (Same.trans s06 (sameNew (o := .tup []) nZ2)) nflH
  have ts8 : TS H6 (upd (upd H6 Z2 (.tup [])) fl (.lst (vs ++ [.ref Z2]))) := TS.trans (tsOf (sameNew nZ2)) (tsLst hfl7)
  have hF8 : A2 (PlcIn K (upd (upd H6 Z2 (.tup [])) fl (.lst (vs ++ [.ref Z2])))) (vs ++ [.ref Z2]) (loP (plD 4 rows []) ++ [[]]) :=
    (plcTS ts8 hF6).app (.cons ⟨Z2, rfl, tsTup (tsLst hfl7) (.of upd_same)⟩ .nil)
  have hfl8 : upd (upd H6 Z2 (.tup [])) fl (.lst (vs ++ [.ref Z2])) fl = some (.lst (vs ++ [.ref Z2])) := upd_same
  generalize upd (upd H6 Z2 (.tup [])) fl (.lst (vs ++ [.ref Z2])) = H8 at *
  have hkp8 := s08 _ _ hkp
  refine ⟨_, rfl, .inl ⟨rfl, _, .of hkp8⟩, _, rfl, _, rfl, _, _, rfl, .inl (.of hfl8), fun G nG => ⟨by show 2 ≤ sizeLine; decide, fun T nT => ?_⟩⟩
  have s8T := Same.trans (sameNew (o := .lst (vs ++ [.ref Z2])) nG) (sameNew (o := .tup [.ref fl, .ref G]) nT)
  have hkp9 := s8T _ _ hkp8
  refine ⟨kp, ks, _, rfl, rfl, hkp9, by omega, ?_⟩
  have nfk : fl ≠ kp := fun z => by rw [z, hkp] at nflH; cases nflH
  have nGH : H G = none := Same.free s08 nG
  have nGk : G ≠ kp := fun z => by rw [z, hkp] at nGH; cases nGH
  have nTH : H T = none := Same.free (Same.trans s08 (sameNew nG)) nT
  have nTk : T ≠ kp := fun z => by rw [z, hkp] at nTH; cases nTH
  refine q _ T fl G (vs ++ [.ref Z2]) (loP (plD 4 rows []) ++ [[]]) (fun b o hb ho => ?_) upd_same nTH nflH nGH ⟨?_, ?_, ?_, plcTS (TS.trans (tsOf s8T) (tsLst hkp9)) hF8⟩ (by simp; omega)
  · rw [upd_ne hb]
    exact (Same.trans s08 s8T) _ _ ho
  · rw [upd_ne nTk, upd_same]
  · rw [upd_ne nfk]
    exact s8T _ _ hfl8
  · rw [upd_ne nGk]
    exact sameNew nT _ _ upd_same

end

end LW

namespace LW
open PySem PySem.Spec PyProof.Rows L2
local macro_rules | `(tactic| walk_at "go1") => `(tactic| first
  | refine ⟨_, rfl, ?_⟩
  | refine ⟨_, _, rfl, rfl, ?_⟩
  | refine ⟨show (0 : Int) < _ from by omega, ?_⟩
  | refine ⟨show CMul _ _ from by first | exact .inl ⟨by omega, by omega⟩ | exact .inr ⟨by omega, by omega⟩, ?_⟩
  | refine ⟨show CDiv _ _ from ⟨by omega, by omega⟩, ?_⟩)
local macro_rules | `(tactic| walk_at "go") => `(tactic| repeat walk_at "go1")

section
variable {P : Program} {w : World} {K : PySem.W.Frag} {mg : Str → Option Value} {base : Heap}

def spLaw (K : PySem.W.Frag) : Sp := fun vs H Q _ => ∃ (a : Addr) (ns : List Int), vs = [.ref a] ∧ SqL K H a (ns.map V.int) ∧ ns.length ≤ 63 ∧ ∀ H', Q (.bl true) H'
theorem repUseZ {K : PySem.W.Frag} {H : Hp} {Q : VK} {a : Addr} {v : V} {z : Int} (n : Nat) (hz : z = (n : Int)) (h : SqT K H a [v]) (h1 : 1 ≤ n) (h2 : n ≤ 1000) (q : ∀ (r : Addr) (H' : Hp), Same H H' → SqT K H' r (List.replicate n v) → Q (.ref r) H') : rRepA K (.ref a) (.int z) H Q := by
  subst hz
  exact repUse h h1 h2 q
theorem butTSl {ds : Addr} {H H' : Hp} {xs : List V} (e : But ds H H') (hd : H ds = some (.lst xs)) : TS H H' := fun a =>
  ⟨fun ys h => e _ _ (fun z => by rw [z, hd] at h; cases h) h, fun o u h => by
    by_cases z : a = ds
    · subst z
      rw [hd] at h
      cases h
    · exact e _ _ z h⟩
theorem sameBut {ds : Addr} {H0 H H' : Hp} (s : Same H0 H) (n : H0 ds = none) (e : But ds H H') : Same H0 H' := fun a o h => e a o (fun z => by rw [z, n] at h; cases h) (s a o h)
theorem keptBut {K : PySem.W.Frag} {kp : Addr} {H H' : Hp} {ks : List V} {t f g : Addr} {us : List V} {ps : List (List Nat)} (e : But kp H H') (hk : H kp = some (.lst ks)) (nf : f ≠ kp) (ng : g ≠ kp) (h : KeptIn K H t f g us ps) : KeptIn K H' t f g us ps :=
  ⟨e _ _ (fun z => by have h1 := h.1; rw [z, hk] at h1; cases h1) h.1, e _ _ nf h.2.1, e _ _ ng h.2.2.1, plcTS (butTSl e hk) h.2.2.2⟩
theorem cnt_snoc {r : Nat} {rows : List D} {n : Nat} {s : D} : cnt (r + 1) (.tup (rows ++ List.replicate n (.tup [.str "say", s]))) = cnt (r + 1) (.tup rows) + n := by
  rw [cnt_tup, cnt_tup, List.map_append, List.sum_append, List.map_replicate, cnt_say]
  simp
theorem eqvNil (ws : List Int) : PyData.eqv (.list (dI ws)) (.list []) = decide (ws = []) := by
  cases ws with
  | nil => simp [dI, PyData.eqv, PyData.eqvAll]
  | cons w r => simp [dI, PyData.eqv, PyData.eqvAll]
theorem okF_iff {fs ts : List Int} : okF fs ts = true ↔ ∀ k, k < ts.length → 0 ≤ fs[k]?.getD 0 ∧ fs[k]?.getD 0 ≤ ts[k]?.getD 0 := by
  simp [okF]
/-- what stands in the law's loop -/
structure LIn (K : PySem.W.Frag) (H : Hp) (kp : Addr) (ks : List V) : Prop where
  at_ : H kp = some (.lst ks)
  all : ∀ v ∈ ks, ∃ (t f g : Addr) (us : List V) (ps : List (List Nat)), v = .ref t ∧ KeptIn K H t f g us ps ∧ f ≠ kp ∧ g ≠ kp ∧ us.length ≤ 100
theorem LIn.same {K : PySem.W.Frag} {H H' : Hp} {kp : Addr} {ks : List V} (e : Same H H') (h : LIn K H kp ks) : LIn K H' kp ks :=
  ⟨e _ _ h.at_, fun v hv => by
    obtain ⟨t, f, g, us, ps, rfl, hk, nf, ng, l⟩ := h.all v hv
    exact ⟨t, f, g, us, ps, rfl, keptBut (butOf e) h.at_ nf ng hk, nf, ng, l⟩⟩
abbrev s_law : Stmt := topS 42
theorem sc_law : FnScope ["_law_script", "_law_tops_here", "_law_rows_here", "_law_cell", "_law_bad_here", "_law_say", "_law_handed", "_law_program_here", "_law_kept", "_law_filling", "_law_turn", "_law_wrong", "_law_due", "_law_found", "_law_k", "_law_held", "_law_pair"] ["_law_script"] (defScope s_law) := ⟨rfl, rfl, rfl, by decide +kernel, rfl, by decide +kernel, by decide +kernel⟩

theorem ok_law {f C CB : Addr} {fd : FuncData} {k : Nat} (F : Fun K "law" "law" s_law f fd) (B : Bl mg) (c__law_program : C8.Cal P w K mg base (k + 1) "_law_program" (spProgG K) []) (c__law_at : C8.Cal P w K mg base (k + 1) "_law_at" (spAt K) []) (c__law_bad : C8.Cal P w K mg base (k + 1) "_law_bad" (spBad K) [])
    (c__law_refused : C8.Cal P w K mg base (k + 1) "_law_refused" (spRef K) []) (c__law_places : C8.Cal P w K mg base (k + 1) "_law_places" (spPl K 4) []) (c_is_within : C8.Cal P w K mg base (k + 1) "is_within" (spWI K C) []) (c__law_right : C8.Cal P w K mg base (k + 1) "_law_right" (spRight K C) []) (q_Program : CalC P w K mg base k C "Program" (spInit K C CB)) :
    FnOk P w K mg base CX0 (k + 2) f fd ["_law_script"] (spLaw K) := by
  refine F.ok sc_law (fun vs H Q E h => ?_) (fun cdv A outer s H vs Q E hr h => ?_)
  · obtain ⟨a, ns, rfl, _⟩ := h
    rfl
  obtain ⟨a, ns, rfl, hS, h63, q⟩ := h
  refine ⟨_, (pss_cons (ps_asg (C8.pe_c c__law_program hr (Nat.le_refl _) (by rfl) (pa_cons (pv 0) (pa_cons pe_int pa_nil))) (kT2 (K := K) rfl rfl (pg_name (i := 1) sc_law.nd rfl (.inr rfl)) (pg_name (i := 2) sc_law.nd rfl (.inl rfl))))
    (pss_cons (ps_set (i := 3) sc_law.nd rfl (.inl rfl) (C8.pe_c c__law_at hr (Nat.le_refl _) (by rfl) (pa_cons (pv 0) (pa_cons pe_int pa_nil))))
    (pss_cons (ps_if (pt_cmpR op_eq (pe_op op_mod (pv 3) pe_int) pe_int (nomark _))
      (pss_cons (ps_set (i := 4) sc_law.nd rfl (.inl rfl) (C8.pe_c c__law_bad hr (Nat.le_refl _) (by rfl) (pa_cons (pe_op op_fdiv (pv 3) pe_int) (pa_cons (pv 1) (pa_cons (pv 2) pa_nil)))))
      (pss_one (ps_ret (C8.pe_c c__law_refused hr (Nat.le_refl _) (by rfl) (pa_cons (pe_ix (kIxL (K := K) rfl) (pv 4) pe_int (fun _ _ => rfl)) (pa_cons (pe_ix (kIxL (K := K) rfl) (pv 4) pe_int (fun _ _ => rfl)) pa_nil))))))
      pss_nil)
    (C8.pss_cut (ps_if (pt_cmpR op_eq (pe_op op_mod (pe_op op_fdiv (pv 3) pe_int) pe_int) pe_int (nomark _))
      (pss_cons (ps_set (i := 5) sc_law.nd rfl (.inl rfl) (pe_tup (pa_cons pe_str (pa_cons (pe_tup (pa_cons (pe_op (kRepA (K := K) rfl) (pe_tup (pa_cons pe_int pa_nil)) (pe_callB (kLen (K := K) rfl) (by rfl) B.len PySem.boot_len (pa_cons (pv 1) pa_nil))) (pa_cons pe_int pa_nil))) pa_nil))))
      (pss_cons (ps_set (i := 2) sc_law.nd rfl (.inl rfl) (pe_op (kCatT (K := K) rfl) (pv 2) (pe_op (kRepA (K := K) rfl) (pe_tup (pa_cons (pv 5) pa_nil)) (pe_op op_sub pe_int (pe_callB (kLen (K := K) rfl) (by rfl) B.len PySem.boot_len (pa_cons (C8.pe_c c__law_places hr (Nat.le_refl _) (by rfl) (pa_cons (pv 2) (pa_cons (pe_tup pa_nil) pa_nil))) pa_nil))))))
      (pss_one (ps_if (pt_not (pt_val (C8.pe_c c__law_refused hr (Nat.le_refl _) (by rfl) (pa_cons (pe_callTy (kList (K := K) rfl) (by rfl) B.list (by decide +kernel) (pa_cons (pv 1) pa_nil)) (pa_cons (pe_op (kCatT (K := K) rfl) (pv 2) (pe_tup (pa_cons (pv 5) pa_nil))) pa_nil)))))
        (pss_one (ps_ret pe_bl))
        pss_nil))))
      pss_nil)
    (pss_cons (ps_set (i := 6) sc_law.nd rfl (.inl rfl) (pe_callTy (kList (K := K) rfl) (by rfl) B.list (by decide +kernel) (pa_cons (pv 1) pa_nil)))
    (pss_cons (ps_set (i := 7) sc_law.nd rfl (.inl rfl) (pC q_Program hr (by omega) (passes_call takes0 (fun _ _ _ _ h => h)) (pa_cons (pv 6) (pa_cons (pv 2) pa_nil))))
    (pss_cons (ps_if (pt_cmpR (kNeD (K := K) rfl hr.units) (pv 6) (pv 1) (nomark _))
      (pss_one (ps_ret pe_bl))
      pss_nil)
    (pss_cons (ps_expr (pe_bm PySem.F.plainAttrs_list PySem.F.slot_list_append PySem.F.type_list_append mt_append (pv 6) (pa_cons pe_non pa_nil)))
    (pss_cons (ps_set (i := 8) sc_law.nd rfl (.inl rfl) (pe_lst pa_nil))
    (pss_cons (ps_set (i := 9) sc_law.nd rfl (.inr rfl) (pe_lc (own := [("_law_k", 14)]) rfl sc_law.nd (pi_range1 (by rfl) B.range (pa_cons (pe_callB (kLen (K := K) rfl) (by rfl) B.len PySem.boot_len (pa_cons (pv 1) pa_nil)) pa_nil)) (blkOk_by (own := [("_law_k", 14)]) (N := ["_law_script", "_law_tops_here", "_law_rows_here", "_law_cell", "_law_bad_here", "_law_say", "_law_handed", "_law_program_here", "_law_kept", "_law_filling", "_law_turn", "_law_wrong", "_law_due", "_law_found", "_law_k", "_law_held", "_law_pair"]) (sc := defScope s_law) (by decide +kernel)) (fun _ _ _ _ _ => (pgN (i := 14) sc_law.nd rfl (.inl rfl) (.inr rfl))) (fun _ _ _ _ _ => pts_nil) (fun _ _ _ _ _ => (pe_op op_sub (pe_op op_mod (C8.pe_c c__law_at hr (Nat.le_refl _) (by rfl) (pa_cons (pv 0) (pa_cons (pe_op op_add pe_int (pv 14)) pa_nil))) (pe_op op_add (pe_ix (kIxL (K := K) rfl) (pv 1) (pv 14) (fun _ _ => rfl)) pe_int)) pe_int))))
    (C8.pss_cut (ps_for PassesOwn.never rfl (pi_range1 (by rfl) B.range (pa_cons pe_int pa_nil)) (pg_name (i := 10) sc_law.nd rfl (.inl rfl))
      (pss_cons (ps_setLc (i := 11) (own := [("_law_k", 14)]) rfl sc_law.nd rfl rfl (sw_true rfl rfl rfl (by decide +kernel)) (pi_range1 (by rfl) B.range (pa_cons (pe_callB (kLen (K := K) rfl) (by rfl) B.len PySem.boot_len (pa_cons (pv 1) pa_nil)) pa_nil)) (blkOk_by (own := [("_law_k", 14)]) (N := ["_law_script", "_law_tops_here", "_law_rows_here", "_law_cell", "_law_bad_here", "_law_say", "_law_handed", "_law_program_here", "_law_kept", "_law_filling", "_law_turn", "_law_wrong", "_law_due", "_law_found", "_law_k", "_law_held", "_law_pair"]) (sc := defScope s_law) (by decide +kernel)) (fun _ _ _ _ _ => (pgN (i := 14) sc_law.nd rfl (.inl rfl) (.inr rfl))) (fun _ _ _ _ _ => (pts_one (pt_not (pt_chain op_le op_le pe_int (pe_ix (kIxL (K := K) rfl) (pv 9) (pv 14) (fun _ _ => rfl)) (pe_ix (kIxL (K := K) rfl) (pv 1) (pv 14) (fun _ _ => rfl)))))) (fun _ _ _ _ _ => (pv 14)))
      (pss_cons (ps_set (i := 12) sc_law.nd rfl (.inl rfl) (pe_cmpR (kEqD (K := K) rfl hr.units) (pv 11) (pe_lst pa_nil) (nomark _)))
      (pss_cons (ps_set (i := 13) sc_law.nd rfl (.inl rfl) (C8.pe_c c_is_within hr (Nat.le_refl _) (by rfl) (pa_cons (pv 7) (pa_cons (pv 9) pa_nil))))
      (pss_cons (ps_if (pt_not (pt_val (C8.pe_c c__law_right hr (Nat.le_refl _) (by rfl) (pa_cons (pv 7) (pa_cons (pv 1) (pa_cons (pv 2) (pa_cons (pv 8) pa_nil)))))))
        (pss_one (ps_ret pe_bl))
        pss_nil)
      (pss_cons (ps_if (PW.pt (pw_or (pt_not (pt_val (pe_callB (kIsi (K := K) rfl) (by rfl) B.isinstance (by decide +kernel) (pa_cons (pv 13) (pa_cons (pe_bltn (v := .ty "bool") (by rfl) B.bool (by decide +kernel) rfl) pa_nil))))) (pw_or1 (pt_cmpR op_ne (pv 13) (pv 12) (nomark _)))))
        (pss_one (ps_ret pe_bl))
        pss_nil)
      (pss_one (ps_set (i := 9) sc_law.nd rfl (.inr rfl) (pe_lc (own := [("_law_held", 15)]) rfl sc_law.nd (kList_ (K := K) rfl (pv 9)) (blkOk_by (own := [("_law_held", 15)]) (N := ["_law_script", "_law_tops_here", "_law_rows_here", "_law_cell", "_law_bad_here", "_law_say", "_law_handed", "_law_program_here", "_law_kept", "_law_filling", "_law_turn", "_law_wrong", "_law_due", "_law_found", "_law_k", "_law_held", "_law_pair"]) (sc := defScope s_law) (by decide +kernel)) (fun _ _ _ _ _ => (pgN (i := 15) sc_law.nd rfl (.inl rfl) (.inr rfl))) (fun _ _ _ _ _ => pts_nil) (fun _ _ _ _ _ => (pe_op op_fdiv (pv 15) pe_int)))))))))))
    (pss_one (ps_ret (pe_cmpR (kEqD (K := K) rfl hr.units) (pe_lc (own := [("_law_pair", 16)]) rfl sc_law.nd (kList_ (K := K) rfl (pv 8)) (blkOk_by (own := [("_law_pair", 16)]) (N := ["_law_script", "_law_tops_here", "_law_rows_here", "_law_cell", "_law_bad_here", "_law_say", "_law_handed", "_law_program_here", "_law_kept", "_law_filling", "_law_turn", "_law_wrong", "_law_due", "_law_found", "_law_k", "_law_held", "_law_pair"]) (sc := defScope s_law) (by decide +kernel)) (fun _ _ _ _ _ => (pgN (i := 16) sc_law.nd rfl (.inl rfl) (.inr rfl))) (fun _ _ _ _ _ => (pts_one (pt_cmpR (kNeD (K := K) rfl hr.units) (pe_ix (kIxT (K := K) rfl) (pv 16) pe_int (fun _ _ => rfl)) (pe_ix (kIxT (K := K) rfl) (pv 16) pe_int (fun _ _ => rfl)) (nomark _)))) (fun _ _ _ _ _ => (pv 16))) (pe_lst pa_nil) (nomark _))))))))))))))), ?_⟩
  have szl : (100000 : Nat) ≤ sizeLine := by decide
  refine ⟨_, rfl, a, ns, 8, rfl, hS, h63, by decide, by decide, fun r0 tp H1 v0 tops rows s1 hr0 ntp htp tw hd hg hc => ?_⟩
  cases hd with
  | @tup a1 xs _ hT hA =>
  refine ⟨_, _, rfl, hr0, rfl, _, _, rfl, _, _, rfl, rfl, ?_⟩
  refine ⟨_, rfl, a, ns, 50, rfl, Same.seq s1 hS, h63, by decide, by decide, fun cell c0 c1 => ?_⟩
  have dv : ∀ z : Int, CDiv z 2 := fun z => ⟨by decide, by decide⟩
  refine ⟨_, rfl, _, _, rfl, rfl, (show (0 : Int) < 2 by decide), rfl, _, rfl, ?_⟩
  refine yesDec (fun co => ?_) (fun co => ?_)
  · refine ⟨_, rfl, _, _, rfl, rfl, dv _, _, rfl, _, rfl, _, tp, a1, tops, xs, rows, rfl, by omega, htp, tw, hT, hA, hg, by omega, fun r2 H2 tv rv s2 hr2 hb => ?_⟩
    exact ⟨_, rfl, _, _, _, _, rfl, rfl, hr2, atI_nat (j := 0) rfl, _, rfl, _, _, _, _, rfl, rfl, hr2, atI_nat (j := 1) rfl, tv, rv, rfl, hb, fun H3 s3 => q H3⟩
  have ltop : (tops.map V.int).length = tops.length := List.length_map _
  have w1 := tw.1
  have w3 := tw.2.1
  have ty := topsYes tw
  refine ⟨fun σ' H' => ∃ (a2 : Addr) (xs2 : List V) (rows2 : List D) (y5 : Option V), σ' = [some (.ref a), some (.ref tp), some (.ref a2), some (.int cell), none, y5, none, none, none, none, none, none, none, none, none, none, none] ∧ Same H1 H' ∧ SqT K H' a2 xs2 ∧ DinA K H' xs2 rows2 ∧ (∀ d ∈ rows2, GRow tops.length 3 d) ∧ cnt 4 (.tup rows2) ≤ 12, ?_, ?_⟩
  · refine ⟨_, rfl, _, _, rfl, rfl, dv _, _, _, rfl, rfl, (show (0 : Int) < 4 by decide), rfl, _, rfl, ?_⟩
    refine yesDec (fun c4 => ?_) (fun c4 => ⟨a1, xs, rows, none, rfl, Same.refl _, hT, hA, hg, by omega⟩)
    refine ⟨by show 1 ≤ sizeLine; decide, fun A1 nA1 => ⟨_, rfl, _, _, rfl, .inl (.of (sameNew nA1 _ _ htp)), repUse (.of upd_same) (by omega) (by omega) fun r1 H2 s2 h1 => ⟨by show 2 ≤ sizeLine; decide, fun T1 nT1 => ⟨by show 2 ≤ sizeLine; decide, fun U1 nU1 => ?_⟩⟩⟩⟩
    have erep : List.replicate (tops.map V.int).length (V.int 0) = (List.replicate tops.length (0 : Int)).map V.int := by simp
    rw [erep] at h1
    have sU : Same H1 (upd (upd H2 T1 (.tup [.ref r1, .int 0])) U1 (.tup [.str "say", .ref T1])) := Same.trans (Same.trans (sameNew nA1) s2) (Same.trans (sameNew nT1) (sameNew nU1))
    have hsay : Din K (upd (upd H2 T1 (.tup [.ref r1, .int 0])) U1 (.tup [.str "say", .ref T1])) (.ref U1) (.tup [.str "say", dSm (List.replicate tops.length 0, 0)]) :=
      .tup (.of upd_same) (.cons (.str _) (.cons (dinSum ⟨T1, r1, rfl, tupS (sameNew nU1) (.of upd_same), tupS (Same.trans (sameNew nT1) (sameNew nU1)) h1⟩) .nil))
    generalize upd (upd H2 T1 (.tup [.ref r1, .int 0])) U1 (.tup [.str "say", .ref T1]) = H3 at *
    clear h1 s2 nA1 nT1 nU1
    have gsay : GRow tops.length 3 (.tup [.str "say", dSm (List.replicate tops.length 0, 0)]) := say_row ⟨by simp, fun n hn => by have := List.eq_of_mem_replicate hn; omega, by show (-99 : Int) ≤ 0; decide, by show (0 : Int) ≤ 99; decide⟩
    -- the rows filled up
    refine ⟨_, rfl, _, rfl, by show 1 ≤ sizeLine; decide, fun W nW => ⟨_, rfl, by show 0 ≤ sizeLine; decide, fun Z nZ => ?_⟩⟩
    have s4 := Same.trans (sameNew (o := .tup [.ref U1]) nW) (sameNew (o := .tup []) nZ)
    refine ⟨tops.length, a1, Z, xs, rows, [], rfl, tupS (Same.trans sU s4) hT, dinASame (Same.trans sU s4) hA, .of upd_same, fun d hd => ⟨3, rfl, hg d hd⟩, by decide, by simp, by decide, by omega, fun pl H5 us npl s5 hpl hP => ?_⟩
    have lus : us.length = cnt 4 (.tup rows) := by
      have := hP.len
      rw [plLen] at this
      exact this
    refine ⟨_, _, rfl, .inl (.of hpl), _, _, rfl, rfl, repUseZ (12 - us.length) (by omega) (tupS (Same.trans (sameNew nZ) s5) (.of upd_same)) (by omega) (by omega) fun r6 H6 s6 h6 => ?_⟩
    have s36 := Same.trans s4 (Same.trans s5 s6)
    have s16 := Same.trans sU s36
    have hcn : cnt 4 (.tup rows) ≤ 9 := by omega
    have lrows : rows.length ≤ 9 := Nat.le_trans (rowsLe (r := 3)) hcn
    have lxs := hA.len
    refine catUse (tupS s16 hT) h6 (by rw [List.length_replicate]; omega) fun r7 H7 s7 h7 => ?_
    have s37 := Same.trans s36 s7
    have s17 := Same.trans sU s37
    have hsays : ∀ n, DinA K H7 (List.replicate n (.ref U1)) (List.replicate n (.tup [.str "say", dSm (List.replicate tops.length 0, 0)])) := fun n => by
      induction n with
      | zero => exact .nil
      | succ n ih => exact .cons (dinSame s37 hsay) ih
    have hA7 := dinApp (dinASame s17 hA) (hsays (12 - us.length))
    have hg7 : ∀ d ∈ rows ++ List.replicate (12 - us.length) (.tup [.str "say", dSm (List.replicate tops.length 0, 0)]), GRow tops.length 3 d := fun d hd => by
      rcases List.mem_append.mp hd with h | h
      · exact hg d h
      · rw [List.eq_of_mem_replicate h]
        exact gsay
    have hc7 : cnt 4 (.tup (rows ++ List.replicate (12 - us.length) (.tup [.str "say", dSm (List.replicate tops.length 0, 0)]))) = 12 := by
      refine (cnt_snoc (r := 3)).trans ?_
      show cnt 4 (.tup rows) + (12 - us.length) = 12
      omega
    have hs1 : DinA K H7 [.ref U1] (List.replicate 1 (.tup [.str "say", dSm (List.replicate tops.length 0, 0)])) := hsays 1
    -- one too many
    refine ⟨_, rfl, _, _, rfl, .inl (.of (s17 _ _ htp)), fun Tl nTl => ⟨_, rfl, _, rfl, by show 1 ≤ sizeLine; decide, fun W2 nW2 => ?_⟩⟩
    have l7 := hA7.len
    have l7b := rowsLe (r := 3) (rows := rows ++ List.replicate (12 - us.length) (.tup [.str "say", dSm (List.replicate tops.length 0, 0)]))
    refine catUse (tupS (Same.trans (sameNew nTl) (sameNew nW2)) h7) (.of upd_same) (by rw [l7]; simp at l7b ⊢; omega) fun r8 H8 s8 h8 => ?_
    have s78 := Same.trans (sameNew (o := .lst (tops.map V.int)) nTl) (Same.trans (sameNew (o := .tup [.ref U1]) nW2) s8)
    refine ⟨.ref Tl, .ref r8, rfl, .inr ⟨Tl, _, tops.map D.int, rfl, .of ((Same.trans (sameNew nW2) s8) _ _ upd_same), dinInts tops, .inr ⟨ty, by simpa using w3, .tup (rows ++ List.replicate (12 - us.length) (.tup [.str "say", dSm (List.replicate tops.length 0, 0)]) ++ List.replicate 1 (.tup [.str "say", dSm (List.replicate tops.length 0, 0)])),
      .tup h8 (dinApp (dinASame s78 hA7) (dinASame s78 hs1)), chk_none (.inr (by rw [show cnt 4 (.tup (rows ++ List.replicate (12 - us.length) (.tup [.str "say", dSm (List.replicate tops.length 0, 0)]) ++ List.replicate 1 (.tup [.str "say", dSm (List.replicate tops.length 0, 0)]))) = 12 + 1 from (cnt_snoc (r := 3)).trans (congrArg (· + 1) hc7)]; decide))⟩⟩, fun H9 s9 => ?_⟩
    refine ⟨_, rfl, ?_⟩
    exact iteF ⟨r7, _, _, _, rfl, Same.trans s17 (Same.trans s78 s9), tupS (Same.trans s78 s9) h7, dinASame (Same.trans s78 s9) hA7, hg7, by omega⟩
  rintro σ' H2 ⟨a2, xs2, rows2, y5, rfl, s2, hT2, hA2, hg2, hc2⟩
  clear hT hA hg hc hr0
  have htp2 := s2 _ _ htp
  -- the program
  refine ⟨_, rfl, _, _, rfl, .inl (.of htp2), fun Hd nHd => ?_⟩
  have hHd : upd H2 Hd (.lst (tops.map V.int)) Hd = some (.lst (tops.map V.int)) := upd_same
  have s3 := sameNew (o := .lst (tops.map V.int)) nHd
  generalize upd H2 Hd (.lst (tops.map V.int)) = H3 at *
  refine ⟨_, rfl, _, rfl, fun x dx nx ndx nex => ?_⟩
  have s4 : Same H3 (upd (upd H3 dx (.own x)) x (.ins C dx [])) := Same.trans (sameNew ndx) (sameNew (by rw [upd_ne (Ne.symm nex)]; exact nx))
  have l2 : (tops.map D.int).length = tops.length := List.length_map _
  have gd : good (tops.map D.int).length 4 (.tup rows2) = true := by rw [l2]; exact good_tup hg2
  have hck := chk_some gd hc2
  refine ⟨x, dx, _, _, rfl, upd_same, .inr ⟨Hd, _, tops.map D.int, rfl, .of (s4 _ _ hHd), dinInts tops, fun z => (by rw [ty] at z; cases z), fun _ => ⟨.tup rows2, .tup (tupS (Same.trans s3 s4) hT2) (dinASame (Same.trans s3 s4) hA2), fun z => (by rw [hck] at z; cases z), fun n hn H5 t keep hx5 ht5 => ⟨rfl, ?_⟩⟩⟩⟩
  have s35 : Same H3 H5 := fun b o ho => keep b o (fun z => by rw [z, nx] at ho; cases ho) (s4 _ _ ho)
  have hp5 : PrIn K H5 C x tops (.ref a2) := ⟨dx, t, hx5, ht5⟩
  have htp5 := s35 _ _ (s3 _ _ htp2)
  have hHd5 := s35 _ _ hHd
  refine ⟨_, rfl, _, rfl, .list (dI tops), .list (dI tops), dpTops (.of hHd5), dpTops (.of htp5), (lyTops tops).shaped (by decide), (lyTops tops).shaped (by decide), _, rfl, ?_⟩
  rw [(lyTops tops).same]
  refine iteF ?_
  refine ⟨_, rfl, .inl ⟨rfl, _, .of hHd5⟩, Hd, _, _, rfl, rfl, hHd5, by omega, ?_⟩
  have ntpH : tp ≠ Hd := fun z => by rw [← z, htp2] at nHd; cases nHd
  have nxH : x ≠ Hd := fun z => by rw [z, hHd] at nx; cases nx
  have htp6 : upd H5 Hd (.lst (tops.map V.int ++ [.non])) tp = some (.lst (tops.map V.int)) := by rw [upd_ne ntpH]; exact htp5
  have hp6 : PrIn K (upd H5 Hd (.lst (tops.map V.int ++ [.non]))) C x tops (.ref a2) := ⟨dx, t, by rw [upd_ne nxH]; exact hx5, tsTup (tsLst hHd5) ht5⟩
  have s26 : Same H2 (upd H5 Hd (.lst (tops.map V.int ++ [.non]))) := sameMut (Same.trans s3 s35) nHd
  have hT6 := tupS s26 hT2
  have hA6 := dinASame s26 hA2
  have hS6 := Same.seq (Same.trans s1 (Same.trans s2 s26)) hS
  generalize upd H5 Hd (.lst (tops.map V.int ++ [.non])) = H6 at *
  clear hHd5 htp5 hp5 s35 hx5 ht5 keep hck gd s4 nex ndx nx s3 hHd hT2 hA2
  -- what is kept, the filling
  refine ⟨by show 0 ≤ sizeLine; decide, fun kp nkp => ?_⟩
  have s7 := sameNew (o := .lst []) nkp
  have hkp7 : upd H6 kp (.lst []) kp = some (.lst []) := upd_same
  generalize upd H6 kp (.lst []) = H7 at *
  have htp7 := s7 _ _ htp6
  refine ⟨_, rfl, _, _, rfl, .inl (.of htp7), _, rfl, by omega, by omega, fun D nD => ?_⟩
  refine lc_it walk_range (Made H7 D (RP fun _ _ => True)) (made0 nD) (fun _ _ _ _ => trivial) (fun i x2 H8 H9 hi p y => ?_) (fun H8 p => ?_)
  · obtain ⟨rfl, rfl⟩ := y
    have hit : i < tops.length := by omega
    have ei : (0 : Int) + (i : Int) = ((i : Nat) : Int) := by omega
    obtain ⟨z, ez, mz⟩ := atMem (xs := tops) (i := 0 + (i : Int)) (by omega) (by omega)
    have hz := tw.2.2 z mz
    refine ⟨rfl, ?_⟩
    refine lcYes ?_
    refine ⟨_, rfl, _, rfl, _, _, rfl, rfl, a, ns, _, rfl, Same.seq p.same (Same.seq s7 hS6), h63, by omega, by omega, fun i0 i1 i2 => ?_⟩
    refine ⟨_, rfl, _, rfl, _, _, _, _, rfl, rfl, .of (p.same _ _ htp7), ez, _, _, rfl, rfl, _, _, rfl, rfl, (by omega), _, _, rfl, rfl, ?_⟩
    exact p.push nD (stRP _) (by omega) (Same.refl _) ⟨_, rfl, trivial⟩
  obtain ⟨fs, lf, eD, s8, _⟩ := madeRP p
  have lft : fs.length = tops.length := by omega
  have ndk : D ≠ kp := fun z => by rw [z, hkp7] at nD; cases nD
  -- the turns
  have L0 : LIn K H8 kp [] := ⟨s8 _ _ hkp7, fun v hv => by cases hv⟩
  refine ⟨fun σ' H' => ∃ (ks : List V) (y9 y10 y11 y12 y13 : Option V), σ' = [some (.ref a), some (.ref tp), some (.ref a2), some (.int cell), none, y5, some (.ref Hd), some (.ref x), some (.ref kp), y9, y10, y11, y12, y13, none, none, none] ∧ LIn K H' kp ks ∧ ks.length ≤ 2, ?_, ?_⟩
  · refine ⟨2, rfl, by decide, by decide, ?_⟩
    refine for_range (lo := 0) (n := (2 : Int).toNat) (fun i σ H' => ∃ (ks : List V) (fl : Addr) (fs : List Int) (y10 y11 y12 y13 : Option V), σ = [some (.ref a), some (.ref tp), some (.ref a2), some (.int cell), none, y5, some (.ref Hd), some (.ref x), some (.ref kp), some (.ref fl), y10, y11, y12, y13, none, none, none] ∧ LIn K H' kp ks ∧ ks.length ≤ i ∧ Same H6 H' ∧ H' fl = some (.lst (fs.map V.int)) ∧ fs.length = tops.length ∧ fl ≠ kp)
      ⟨[], D, fs, none, none, none, none, rfl, L0, Nat.le_refl _, Same.trans s7 s8, eD, lft, ndk⟩ (fun i σ H' hi w => ?_) (fun σ H' w => ?_)
    · obtain ⟨ks, fl, fs, y10, y11, y12, y13, rfl, hL, hkl, s6, hfl, lft, nfk⟩ := w
      have hi2 : i < 2 := hi
      have htpL := s6 _ _ htp6
      refine ⟨_, rfl, _, _, rfl, .inl (.of htpL), _, rfl, by omega, by omega, fun Dd nD => ?_⟩
      refine lc_it walk_range (fun j H9 => Same H' H9 ∧ ∃ ws : List Int, H9 Dd = some (.lst (ws.map V.int)) ∧ ws.length ≤ j ∧ (ws = [] ↔ ∀ k, k < j → 0 ≤ fs[k]?.getD 0 ∧ fs[k]?.getD 0 ≤ tops[k]?.getD 0)) ⟨sameNew nD, [], upd_same, Nat.le_refl _, by simp⟩ (fun _ _ _ _ => trivial) (fun j x2 H9 H10 hj p y => ?_) (fun H9 p => ?_)
      · obtain ⟨sm, ws, hW, lw, hiff⟩ := p
        obtain ⟨rfl, rfl⟩ := y
        have hj2 : j < tops.length := by omega
        have hj3 : j < fs.length := by omega
        have ej : (0 : Int) + (j : Int) = ((j : Nat) : Int) := by omega
        have af : atI (fs.map V.int) (0 + (j : Int)) = some (.int fs[j]) := by rw [ej]; exact atI_nat (intAt hj3)
        have at2 : atI (tops.map V.int) (0 + (j : Int)) = some (.int tops[j]) := by rw [ej]; exact atI_nat (intAt hj2)
        have gf : fs[j]?.getD 0 = fs[j] := by simp [hj3]
        have gt : tops[j]?.getD 0 = tops[j] := by simp [hj2]
        have step : ∀ (c : 0 ≤ fs[j] ∧ fs[j] ≤ tops[j]), (ws = [] ↔ ∀ k, k < j + 1 → 0 ≤ fs[k]?.getD 0 ∧ fs[k]?.getD 0 ≤ tops[k]?.getD 0) := fun c => by
          rw [hiff]
          constructor
          · intro h k hk
            by_cases e : k = j
            · subst e
              rw [gf, gt]
              exact c
            · exact h k (by omega)
          · exact fun h k hk => h k (by omega)
        have push : ∀ (c : ¬ (0 ≤ fs[j] ∧ fs[j] ≤ tops[j])), ∃ acc, H10 Dd = some (.lst acc) ∧ acc.length < sizeLine ∧ Same H' (upd H10 Dd (.lst (acc ++ [.int (0 + (j : Int))]))) ∧ ∃ ws : List Int, upd H10 Dd (.lst (acc ++ [.int (0 + (j : Int))])) Dd = some (.lst (ws.map V.int)) ∧ ws.length ≤ j + 1 ∧ (ws = [] ↔ ∀ k, k < j + 1 → 0 ≤ fs[k]?.getD 0 ∧ fs[k]?.getD 0 ≤ tops[k]?.getD 0) := fun c => by
          refine ⟨ws.map V.int, hW, by simp; omega, sameMut sm nD, ws ++ [0 + (j : Int)], by rw [upd_same]; simp, by simp; omega, ?_⟩
          constructor
          · intro e
            simp at e
          · intro h
            have := h j (by omega)
            rw [gf, gt] at this
            exact absurd this c
        refine ⟨rfl, ?_⟩
        refine ⟨_, rfl, _, rfl, _, _, _, _, rfl, rfl, .of (sm _ _ hfl), af, _, _, rfl, rfl, _, rfl, ?_⟩
        refine yesDec (fun c1 => ?_) (fun c1 => ?_)
        · refine ⟨_, rfl, _, rfl, _, _, _, _, rfl, rfl, .of (sm _ _ htpL), at2, _, _, rfl, rfl, _, rfl, ?_⟩
          refine notDec (fun c2 => ?_) (fun c2 => ?_)
          · exact ⟨_, rfl, push fun c => c2 c.2⟩
          · exact ⟨sm, ws, hW, by omega, step ⟨c1, c2⟩⟩
        · refine ⟨_, rfl, iteT ⟨_, rfl, push fun c => c1 c.1⟩⟩
      obtain ⟨sm, ws, hW, lw, hiff⟩ := p
      have ltj : (tops.map V.int).length = tops.length := List.length_map _
      have sL := Same.trans s6 sm
      refine ⟨_, rfl, by show 0 ≤ sizeLine; decide, fun E1 nE => ?_⟩
      have sE := sameNew (o := .lst []) nE
      refine ⟨.list (dI ws), .list [], .lst (.of (sE _ _ hW)) (dpInts ws), .lst (.of upd_same) .nil, (lyTops ws).shaped (by decide), (lyLst (lyNil 1)).shaped (by decide), ?_⟩
      rw [eqvNil]
      have edue : decide (ws = []) = okF fs tops := by
        rw [Bool.eq_iff_iff, decide_eq_true_eq, okF_iff, hiff]
        constructor
        · exact fun h k hk => h k (by omega)
        · exact fun h k hk => h k (by omega)
      rw [edue]
      have sLE := Same.trans sL sE
      refine ⟨_, rfl, _, rfl, x, fl, tops, fs, .ref a2, rfl, prSame sLE hp6, .of ((Same.trans sm sE) _ _ hfl), lft, by omega, fun H11 s11 => ?_⟩
      have s11L := Same.trans sLE s11
      have sH11 := Same.trans (Same.trans sm sE) s11
      have hL11 := hL.same sH11
      refine ⟨_, rfl, _, rfl, _, rfl, _, rfl, tops.length, x, tp, a2, kp, tops, xs2, rows2, ks, rfl, prSame s11L hp6, s11L _ _ htp6, tupS s11L hT6, dinASame s11L hA6, hg2, by omega, hL11.at_, by omega, fun H12 t f2 g us ps b12 hkp12 nt nf ng hk lus => ?_⟩
      refine ⟨_, rfl, ?_⟩
      refine iteF ?_
      refine ⟨_, rfl, _, _, _, _, true, rfl, .ty _, .base (.bl _), kit_ty (by decide +kernel), _, rfl, ?_⟩
      refine iteF ?_
      refine ⟨_, rfl, _, rfl, rfl, _, rfl, ?_⟩
      refine notDec (fun c => absurd rfl c) (fun _ => ?_)
      have nfk2 : f2 ≠ kp := fun z => by rw [z, hL11.at_] at nf; cases nf
      have ngk2 : g ≠ kp := fun z => by rw [z, hL11.at_] at ng; cases ng
      have hL12 : LIn K H12 kp (ks ++ [.ref t]) := ⟨hkp12, fun v hv => by
        rcases List.mem_append.mp hv with h | h
        · obtain ⟨t', f', g', us', ps', e, hk', nf', ng', l'⟩ := hL11.all v h
          exact ⟨t', f', g', us', ps', e, keptBut b12 hL11.at_ nf' ng' hk', nf', ng', l'⟩
        · exact ⟨t, f2, g, us, ps, List.mem_singleton.mp h, hk, nfk2, ngk2, lus⟩⟩
      have s612 : Same H6 H12 := sameBut s11L nkp b12
      have hfl12 : H12 fl = some (.lst (fs.map V.int)) := b12 _ _ nfk (sH11 _ _ hfl)
      refine ⟨_, rfl, _, rfl, ⟨_, .of hfl12⟩, fun D2 nD2 => ?_⟩
      refine lc_it (walk_list (xs := fs.map V.int)) (Made H12 D2 (RP fun _ _ => True)) (made0 nD2) (fun j H13 _ p => .of (p.same _ _ hfl12)) (fun j x2 H13 H14 hj p y => ?_) (fun H13 p => ?_)
      · obtain ⟨rfl, ex⟩ := y
        have hj3 : j < fs.length := by simpa using hj
        have e2 := mapAt ex hj3
        subst e2
        refine ⟨rfl, ?_⟩
        refine lcYes ?_
        refine ⟨_, rfl, _, _, rfl, rfl, dv _, ?_⟩
        exact p.push nD2 (stRP _) (by omega) (Same.refl _) ⟨_, rfl, trivial⟩
      · obtain ⟨fs2, lf2, eD2, s13, _⟩ := madeRP p
        have nk2 : D2 ≠ kp := fun z => by rw [z, hkp12] at nD2; cases nD2
        exact ⟨ks ++ [.ref t], D2, fs2, _, _, _, _, rfl, hL12.same s13, by simp; omega, Same.trans s612 s13, eD2, by simp at lf2; omega, nk2⟩
    · obtain ⟨ks, fl, fs, y10, y11, y12, y13, rfl, hL, hkl, _⟩ := w
      exact ⟨ks, _, _, _, _, _, rfl, hL, hkl⟩
  rintro σ' H9 ⟨ks, y9, y10, y11, y12, y13, rfl, hL, hkl⟩
  refine ⟨_, rfl, _, rfl, ⟨_, .of hL.at_⟩, fun Dz nDz => ?_⟩
  refine lc_it (walk_list (xs := ks)) (fun j H' => Same H9 H' ∧ H' Dz = some (.lst [])) ⟨sameNew nDz, upd_same⟩ (fun j H' _ p => .of (p.1 _ _ hL.at_)) (fun j x2 H' H'' hj p y => ?_) (fun H' p => ?_)
  · obtain ⟨sm, hD⟩ := p
    obtain ⟨rfl, ex⟩ := y
    obtain ⟨t', f', g', us', ps', rfl, hk', nf', ng', l'⟩ := (hL.same sm).all x2 (List.mem_of_getElem? ex)
    refine ⟨rfl, ?_⟩
    refine ⟨_, rfl, _, _, _, _, rfl, rfl, .of hk'.1, atI_nat (j := 0) rfl, _, rfl, _, _, _, _, rfl, rfl, .of hk'.1, atI_nat (j := 1) rfl, .list (ps'.map dPl), .list (ps'.map dPl), .lst (.of hk'.2.1) (dpPlc hk'.2.2.2), .lst (.of hk'.2.2.1) (dpPlc hk'.2.2.2), (lyPlc _).shaped (by decide), (lyPlc _).shaped (by decide), _, rfl, ?_⟩
    rw [(lyPlc _).same]
    exact iteF ⟨sm, hD⟩
  · obtain ⟨sm, hD⟩ := p
    refine ⟨by show 0 ≤ sizeLine; decide, fun E2 nE2 => ?_⟩
    refine ⟨.list [], .list [], .lst (.of (sameNew nE2 _ _ hD)) .nil, .lst (.of upd_same) .nil, (lyLst (lyNil 1)).shaped (by decide), (lyLst (lyNil 1)).shaped (by decide), ?_⟩
    rw [show PyData.eqv (.list []) (.list []) = true by simp [PyData.eqv, PyData.eqvAll]]
    exact q _

end

end LW

namespace LW
open PySem PySem.Spec PyProof.Rows L2
theorem calMk {P : Program} {w : World} {K : PySem.W.Frag} {mg : Str → Option Value} {base : Heap} {j k : Nat} {x : Str} {sp : Sp} {f : Addr} {fd : FuncData} {ps : List Str} (F : FnOk P w K mg base CX0 j f fd ps sp) (hm : mg x = some (.ref f)) (kp : PySem.W.keepIn K (.ref f) = true) (b : Binds K fd ps []) (h : j ≤ k) : C8.Cal P w K mg base k x sp [] :=
  ⟨f, fd, ps, [], F.mono h, hm, kp, b, .nil⟩
theorem calXMk {P : Program} {w : World} {K : PySem.W.Frag} {mg : Str → Option Value} {base : Heap} {j k : Nat} {x : Str} {sp : Sp} {f : Addr} {fd : FuncData} {ps : List Str} (F : FnOk P w K mg base (L2.CX P w) j f fd ps sp) (hm : mg x = some (.ref f)) (kp : PySem.W.keepIn K (.ref f) = true) (b : Binds K fd ps []) (h : j ≤ k) : CalX P w K mg base k x sp :=
  ⟨f, fd, ps, F.mono h, hm, kp, b⟩
theorem vac {P : Program} {w : World} {K : PySem.W.Frag} {mg : Str → Option Value} {base : Heap} {CX : CXT} {k : Nat} {f : Addr} {fd : FuncData} {ps : List Str} {sp : Sp} (h : ∀ vs H Q E, ¬ sp vs H Q E) : FnOk P w K mg base CX k f fd ps sp :=
  ⟨fun vs H Q E z => absurd z (h vs H Q E), fun A outer s H args us vs Q E hr he hb hv z => absurd z (h vs H Q E)⟩
set_option maxHeartbeats 8000000
theorem all_mk {l : PySem.W.OpenLaw} {w : World} {K : PySem.W.Frag} {h : Heap} {mg : Str → Option Value} {fa : Addr} (X : K.In h) (G : h.Ns mainGlobals mg) (hfa : mg "law" = some (.ref fa))
    {C CB BF NL LE : Addr} (aC : PySem.W.nsIn K mainGlobals "Program" = some (some (.ref C))) (aB : PySem.W.nsIn K mainGlobals "BadProgram" = some (some (.ref CB))) (aF : PySem.W.nsIn K mainGlobals "BadFilling" = some (some (.ref BF))) (aN : PySem.W.nsIn K mainGlobals "NoLoop" = some (some (.ref NL))) (aL : PySem.W.nsIn K mainGlobals "LoopError" = some (some (.ref LE)))
    {f1 : Addr} {od1 an1 : Option Addr} {sl1 : Array (Option Value)} {oc1 kV1 dc1 pm1 cd1 ct1 : Value} (a1 : PySem.W.nsIn K mainGlobals "is_filling" = some (some (.ref f1))) (l1 : K.lookup f1 = some ⟨oc1, od1, .func (PySem.W.fnOf "is_filling" "is_filling" (defArgs s_is_filling) (defBody s_is_filling) (defScope s_is_filling) .none kV1 dc1 pm1 an1 cd1 ct1), sl1⟩) (c1 : PySem.W.codeIn K cd1 "is_filling" = true) (k1 : PySem.W.keepIn K (.ref f1) = true)
    {f2 : Addr} {od2 an2 : Option Addr} {sl2 : Array (Option Value)} {oc2 kV2 dc2 pm2 cd2 ct2 : Value} (a2 : PySem.W.nsIn K mainGlobals "is_within" = some (some (.ref f2))) (l2 : K.lookup f2 = some ⟨oc2, od2, .func (PySem.W.fnOf "is_within" "is_within" (defArgs s_is_within) (defBody s_is_within) (defScope s_is_within) .none kV2 dc2 pm2 an2 cd2 ct2), sl2⟩) (c2 : PySem.W.codeIn K cd2 "is_within" = true) (k2 : PySem.W.keepIn K (.ref f2) = true)
    {f3 : Addr} {od3 an3 : Option Addr} {sl3 : Array (Option Value)} {oc3 kV3 dc3 pm3 cd3 ct3 : Value} (a3 : PySem.W.nsIn K mainGlobals "rows_within" = some (some (.ref f3))) (l3 : K.lookup f3 = some ⟨oc3, od3, .func (PySem.W.fnOf "rows_within" "rows_within" (defArgs s_rows_within) (defBody s_rows_within) (defScope s_rows_within) .none kV3 dc3 pm3 an3 cd3 ct3), sl3⟩) (c3 : PySem.W.codeIn K cd3 "rows_within" = true) (k3 : PySem.W.keepIn K (.ref f3) = true)
    {f4 : Addr} {od4 an4 : Option Addr} {sl4 : Array (Option Value)} {oc4 kV4 dc4 pm4 cd4 ct4 : Value} (a4 : PySem.W.nsIn K mainGlobals "_loops_among" = some (some (.ref f4))) (l4 : K.lookup f4 = some ⟨oc4, od4, .func (PySem.W.fnOf "_loops_among" "_loops_among" (defArgs s__loops_among) (defBody s__loops_among) (defScope s__loops_among) .none kV4 dc4 pm4 an4 cd4 ct4), sl4⟩) (c4 : PySem.W.codeIn K cd4 "_loops_among" = true) (k4 : PySem.W.keepIn K (.ref f4) = true)
    {f5 : Addr} {od5 an5 : Option Addr} {sl5 : Array (Option Value)} {oc5 kV5 dc5 pm5 cd5 ct5 : Value} (a5 : PySem.W.nsIn K mainGlobals "_check_tops" = some (some (.ref f5))) (l5 : K.lookup f5 = some ⟨oc5, od5, .func (PySem.W.fnOf "_check_tops" "_check_tops" (defArgs s__check_tops) (defBody s__check_tops) (defScope s__check_tops) .none kV5 dc5 pm5 an5 cd5 ct5), sl5⟩) (c5 : PySem.W.codeIn K cd5 "_check_tops" = true) (k5 : PySem.W.keepIn K (.ref f5) = true)
    {f6 : Addr} {od6 an6 : Option Addr} {sl6 : Array (Option Value)} {oc6 kV6 dc6 pm6 cd6 ct6 : Value} (a6 : PySem.W.nsIn K mainGlobals "_check_rows" = some (some (.ref f6))) (l6 : K.lookup f6 = some ⟨oc6, od6, .func (PySem.W.fnOf "_check_rows" "_check_rows" (defArgs s__check_rows) (defBody s__check_rows) (defScope s__check_rows) .none kV6 dc6 pm6 an6 cd6 ct6), sl6⟩) (c6 : PySem.W.codeIn K cd6 "_check_rows" = true) (k6 : PySem.W.keepIn K (.ref f6) = true)
    {f7 : Addr} {od7 an7 : Option Addr} {sl7 : Array (Option Value)} {oc7 kV7 dc7 pm7 cd7 ct7 : Value} (a7 : PySem.W.nsIn K mainGlobals "_check_count" = some (some (.ref f7))) (l7 : K.lookup f7 = some ⟨oc7, od7, .func (PySem.W.fnOf "_check_count" "_check_count" (defArgs s__check_count) (defBody s__check_count) (defScope s__check_count) .none kV7 dc7 pm7 an7 cd7 ct7), sl7⟩) (c7 : PySem.W.codeIn K cd7 "_check_count" = true) (k7 : PySem.W.keepIn K (.ref f7) = true)
    {f8 : Addr} {od8 an8 : Option Addr} {sl8 : Array (Option Value)} {oc8 kV8 dc8 pm8 cd8 ct8 : Value} (a8 : PySem.W.nsIn K mainGlobals "_check_row" = some (some (.ref f8))) (l8 : K.lookup f8 = some ⟨oc8, od8, .func (PySem.W.fnOf "_check_row" "_check_row" (defArgs s__check_row) (defBody s__check_row) (defScope s__check_row) .none kV8 dc8 pm8 an8 cd8 ct8), sl8⟩) (c8 : PySem.W.codeIn K cd8 "_check_row" = true) (k8 : PySem.W.keepIn K (.ref f8) = true)
    {f9 : Addr} {od9 an9 : Option Addr} {sl9 : Array (Option Value)} {oc9 kV9 dc9 pm9 cd9 ct9 : Value} (a9 : PySem.W.nsIn K mainGlobals "_are_kept_words" = some (some (.ref f9))) (l9 : K.lookup f9 = some ⟨oc9, od9, .func (PySem.W.fnOf "_are_kept_words" "_are_kept_words" (defArgs s__are_kept_words) (defBody s__are_kept_words) (defScope s__are_kept_words) .none kV9 dc9 pm9 an9 cd9 ct9), sl9⟩) (c9 : PySem.W.codeIn K cd9 "_are_kept_words" = true) (k9 : PySem.W.keepIn K (.ref f9) = true)
    {f10 : Addr} {od10 an10 : Option Addr} {sl10 : Array (Option Value)} {oc10 kV10 dc10 pm10 cd10 ct10 : Value} (a10 : PySem.W.nsIn K mainGlobals "_is_sum" = some (some (.ref f10))) (l10 : K.lookup f10 = some ⟨oc10, od10, .func (PySem.W.fnOf "_is_sum" "_is_sum" (defArgs s__is_sum) (defBody s__is_sum) (defScope s__is_sum) .none kV10 dc10 pm10 an10 cd10 ct10), sl10⟩) (c10 : PySem.W.codeIn K cd10 "_is_sum" = true) (k10 : PySem.W.keepIn K (.ref f10) = true)
    {f11 : Addr} {od11 an11 : Option Addr} {sl11 : Array (Option Value)} {oc11 kV11 dc11 pm11 cd11 ct11 : Value} (a11 : PySem.W.nsIn K mainGlobals "_is_from_to" = some (some (.ref f11))) (l11 : K.lookup f11 = some ⟨oc11, od11, .func (PySem.W.fnOf "_is_from_to" "_is_from_to" (defArgs s__is_from_to) (defBody s__is_from_to) (defScope s__is_from_to) .none kV11 dc11 pm11 an11 cd11 ct11), sl11⟩) (c11 : PySem.W.codeIn K cd11 "_is_from_to" = true) (k11 : PySem.W.keepIn K (.ref f11) = true)
    {f12 : Addr} {od12 an12 : Option Addr} {sl12 : Array (Option Value)} {oc12 kV12 dc12 pm12 cd12 ct12 : Value} (a12 : PySem.W.nsIn K mainGlobals "_law_at" = some (some (.ref f12))) (l12 : K.lookup f12 = some ⟨oc12, od12, .func (PySem.W.fnOf "_law_at" "_law_at" (defArgs s__law_at) (defBody s__law_at) (defScope s__law_at) .none kV12 dc12 pm12 an12 cd12 ct12), sl12⟩) (c12 : PySem.W.codeIn K cd12 "_law_at" = true) (k12 : PySem.W.keepIn K (.ref f12) = true)
    {f13 : Addr} {od13 an13 : Option Addr} {sl13 : Array (Option Value)} {oc13 kV13 dc13 pm13 cd13 ct13 : Value} (a13 : PySem.W.nsIn K mainGlobals "_law_tops" = some (some (.ref f13))) (l13 : K.lookup f13 = some ⟨oc13, od13, .func (PySem.W.fnOf "_law_tops" "_law_tops" (defArgs s__law_tops) (defBody s__law_tops) (defScope s__law_tops) .none kV13 dc13 pm13 an13 cd13 ct13), sl13⟩) (c13 : PySem.W.codeIn K cd13 "_law_tops" = true) (k13 : PySem.W.keepIn K (.ref f13) = true)
    {f14 : Addr} {od14 an14 : Option Addr} {sl14 : Array (Option Value)} {oc14 kV14 dc14 pm14 cd14 ct14 : Value} (a14 : PySem.W.nsIn K mainGlobals "_law_unit" = some (some (.ref f14))) (l14 : K.lookup f14 = some ⟨oc14, od14, .func (PySem.W.fnOf "_law_unit" "_law_unit" (defArgs s__law_unit) (defBody s__law_unit) (defScope s__law_unit) .none kV14 dc14 pm14 an14 cd14 ct14), sl14⟩) (c14 : PySem.W.codeIn K cd14 "_law_unit" = true) (k14 : PySem.W.keepIn K (.ref f14) = true)
    {f15 : Addr} {od15 an15 : Option Addr} {sl15 : Array (Option Value)} {oc15 kV15 dc15 pm15 cd15 ct15 : Value} (a15 : PySem.W.nsIn K mainGlobals "_law_word" = some (some (.ref f15))) (l15 : K.lookup f15 = some ⟨oc15, od15, .func (PySem.W.fnOf "_law_word" "_law_word" (defArgs s__law_word) (defBody s__law_word) (defScope s__law_word) .none kV15 dc15 pm15 an15 cd15 ct15), sl15⟩) (c15 : PySem.W.codeIn K cd15 "_law_word" = true) (k15 : PySem.W.keepIn K (.ref f15) = true)
    {f16 : Addr} {od16 an16 : Option Addr} {sl16 : Array (Option Value)} {oc16 kV16 dc16 pm16 cd16 ct16 : Value} (a16 : PySem.W.nsIn K mainGlobals "_law_into" = some (some (.ref f16))) (l16 : K.lookup f16 = some ⟨oc16, od16, .func (PySem.W.fnOf "_law_into" "_law_into" (defArgs s__law_into) (defBody s__law_into) (defScope s__law_into) .none kV16 dc16 pm16 an16 cd16 ct16), sl16⟩) (c16 : PySem.W.codeIn K cd16 "_law_into" = true) (k16 : PySem.W.keepIn K (.ref f16) = true)
    {f17 : Addr} {od17 an17 : Option Addr} {sl17 : Array (Option Value)} {oc17 kV17 dc17 pm17 cd17 ct17 : Value} (a17 : PySem.W.nsIn K mainGlobals "_law_row" = some (some (.ref f17))) (l17 : K.lookup f17 = some ⟨oc17, od17, .func (PySem.W.fnOf "_law_row" "_law_row" (defArgs s__law_row) (defBody s__law_row) (defScope s__law_row) .none kV17 dc17 pm17 an17 cd17 ct17), sl17⟩) (c17 : PySem.W.codeIn K cd17 "_law_row" = true) (k17 : PySem.W.keepIn K (.ref f17) = true)
    {f18 : Addr} {od18 an18 : Option Addr} {sl18 : Array (Option Value)} {oc18 kV18 dc18 pm18 cd18 ct18 : Value} (a18 : PySem.W.nsIn K mainGlobals "_law_rows" = some (some (.ref f18))) (l18 : K.lookup f18 = some ⟨oc18, od18, .func (PySem.W.fnOf "_law_rows" "_law_rows" (defArgs s__law_rows) (defBody s__law_rows) (defScope s__law_rows) .none kV18 dc18 pm18 an18 cd18 ct18), sl18⟩) (c18 : PySem.W.codeIn K cd18 "_law_rows" = true) (k18 : PySem.W.keepIn K (.ref f18) = true)
    {f19 : Addr} {od19 an19 : Option Addr} {sl19 : Array (Option Value)} {oc19 kV19 dc19 pm19 cd19 ct19 : Value} (a19 : PySem.W.nsIn K mainGlobals "_law_program" = some (some (.ref f19))) (l19 : K.lookup f19 = some ⟨oc19, od19, .func (PySem.W.fnOf "_law_program" "_law_program" (defArgs s__law_program) (defBody s__law_program) (defScope s__law_program) .none kV19 dc19 pm19 an19 cd19 ct19), sl19⟩) (c19 : PySem.W.codeIn K cd19 "_law_program" = true) (k19 : PySem.W.keepIn K (.ref f19) = true)
    {f20 : Addr} {od20 an20 : Option Addr} {sl20 : Array (Option Value)} {oc20 kV20 dc20 pm20 cd20 ct20 : Value} (a20 : PySem.W.nsIn K mainGlobals "_law_places" = some (some (.ref f20))) (l20 : K.lookup f20 = some ⟨oc20, od20, .func (PySem.W.fnOf "_law_places" "_law_places" (defArgs s__law_places) (defBody s__law_places) (defScope s__law_places) .none kV20 dc20 pm20 an20 cd20 ct20), sl20⟩) (c20 : PySem.W.codeIn K cd20 "_law_places" = true) (k20 : PySem.W.keepIn K (.ref f20) = true)
    {f21 : Addr} {od21 an21 : Option Addr} {sl21 : Array (Option Value)} {oc21 kV21 dc21 pm21 cd21 ct21 : Value} (a21 : PySem.W.nsIn K mainGlobals "_law_changed" = some (some (.ref f21))) (l21 : K.lookup f21 = some ⟨oc21, od21, .func (PySem.W.fnOf "_law_changed" "_law_changed" (defArgs s__law_changed) (defBody s__law_changed) (defScope s__law_changed) .none kV21 dc21 pm21 an21 cd21 ct21), sl21⟩) (c21 : PySem.W.codeIn K cd21 "_law_changed" = true) (k21 : PySem.W.keepIn K (.ref f21) = true)
    {f22 : Addr} {od22 an22 : Option Addr} {sl22 : Array (Option Value)} {oc22 kV22 dc22 pm22 cd22 ct22 : Value} (a22 : PySem.W.nsIn K mainGlobals "_law_bad_sum" = some (some (.ref f22))) (l22 : K.lookup f22 = some ⟨oc22, od22, .func (PySem.W.fnOf "_law_bad_sum" "_law_bad_sum" (defArgs s__law_bad_sum) (defBody s__law_bad_sum) (defScope s__law_bad_sum) .none kV22 dc22 pm22 an22 cd22 ct22), sl22⟩) (c22 : PySem.W.codeIn K cd22 "_law_bad_sum" = true) (k22 : PySem.W.keepIn K (.ref f22) = true)
    {f23 : Addr} {od23 an23 : Option Addr} {sl23 : Array (Option Value)} {oc23 kV23 dc23 pm23 cd23 ct23 : Value} (a23 : PySem.W.nsIn K mainGlobals "_law_bad_row" = some (some (.ref f23))) (l23 : K.lookup f23 = some ⟨oc23, od23, .func (PySem.W.fnOf "_law_bad_row" "_law_bad_row" (defArgs s__law_bad_row) (defBody s__law_bad_row) (defScope s__law_bad_row) .none kV23 dc23 pm23 an23 cd23 ct23), sl23⟩) (c23 : PySem.W.codeIn K cd23 "_law_bad_row" = true) (k23 : PySem.W.keepIn K (.ref f23) = true)
    {f24 : Addr} {od24 an24 : Option Addr} {sl24 : Array (Option Value)} {oc24 kV24 dc24 pm24 cd24 ct24 : Value} (a24 : PySem.W.nsIn K mainGlobals "_law_bad" = some (some (.ref f24))) (l24 : K.lookup f24 = some ⟨oc24, od24, .func (PySem.W.fnOf "_law_bad" "_law_bad" (defArgs s__law_bad) (defBody s__law_bad) (defScope s__law_bad) .none kV24 dc24 pm24 an24 cd24 ct24), sl24⟩) (c24 : PySem.W.codeIn K cd24 "_law_bad" = true) (k24 : PySem.W.keepIn K (.ref f24) = true)
    {f25 : Addr} {od25 an25 : Option Addr} {sl25 : Array (Option Value)} {oc25 kV25 dc25 pm25 cd25 ct25 : Value} (a25 : PySem.W.nsIn K mainGlobals "_law_refused" = some (some (.ref f25))) (l25 : K.lookup f25 = some ⟨oc25, od25, .func (PySem.W.fnOf "_law_refused" "_law_refused" (defArgs s__law_refused) (defBody s__law_refused) (defScope s__law_refused) .none kV25 dc25 pm25 an25 cd25 ct25), sl25⟩) (c25 : PySem.W.codeIn K cd25 "_law_refused" = true) (k25 : PySem.W.keepIn K (.ref f25) = true)
    {f26 : Addr} {od26 an26 : Option Addr} {sl26 : Array (Option Value)} {oc26 kV26 dc26 pm26 cd26 ct26 : Value} (a26 : PySem.W.nsIn K mainGlobals "_law_right" = some (some (.ref f26))) (l26 : K.lookup f26 = some ⟨oc26, od26, .func (PySem.W.fnOf "_law_right" "_law_right" (defArgs s__law_right) (defBody s__law_right) (defScope s__law_right) .none kV26 dc26 pm26 an26 cd26 ct26), sl26⟩) (c26 : PySem.W.codeIn K cd26 "_law_right" = true) (k26 : PySem.W.keepIn K (.ref f26) = true)
    {f27 : Addr} {od27 an27 : Option Addr} {sl27 : Array (Option Value)} {oc27 kV27 dc27 pm27 cd27 ct27 : Value} (a27 : PySem.W.nsIn K mainGlobals "law" = some (some (.ref f27))) (l27 : K.lookup f27 = some ⟨oc27, od27, .func (PySem.W.fnOf "law" "law" (defArgs s_law) (defBody s_law) (defScope s_law) .none kV27 dc27 pm27 an27 cd27 ct27), sl27⟩) (c27 : PySem.W.codeIn K cd27 "law" = true) (k27 : PySem.W.keepIn K (.ref f27) = true)
    {f28 : Addr} {od28 an28 : Option Addr} {sl28 : Array (Option Value)} {oc28 kV28 dc28 pm28 cd28 ct28 : Value} (a28 : PySem.W.findIn K (.ref C) "__init__" = some (some (.ref f28))) (i28 : PySem.W.isFn K (.ref f28) = true) (l28 : K.lookup f28 = some ⟨oc28, od28, .func (PySem.W.fnOf "__init__" "Program.__init__" (defArgs s_Program___init__) (defBody s_Program___init__) (defScope s_Program___init__) .none kV28 dc28 pm28 an28 cd28 ct28), sl28⟩) (c28 : PySem.W.codeIn K cd28 "Program.__init__" = true) (k28 : PySem.W.keepIn K (.ref f28) = true)
    {f29 : Addr} {od29 an29 : Option Addr} {sl29 : Array (Option Value)} {oc29 kV29 dc29 pm29 cd29 ct29 : Value} (a29 : PySem.W.findIn K (.ref C) "row" = some (some (.ref f29))) (i29 : PySem.W.isFn K (.ref f29) = true) (l29 : K.lookup f29 = some ⟨oc29, od29, .func (PySem.W.fnOf "row" "Program.row" (defArgs s_Program_row) (defBody s_Program_row) (defScope s_Program_row) .none kV29 dc29 pm29 an29 cd29 ct29), sl29⟩) (c29 : PySem.W.codeIn K cd29 "Program.row" = true) (k29 : PySem.W.keepIn K (.ref f29) = true)
    {f30 : Addr} {od30 an30 : Option Addr} {sl30 : Array (Option Value)} {oc30 kV30 dc30 pm30 cd30 ct30 : Value} (a30 : PySem.W.findIn K (.ref C) "loops" = some (some (.ref f30))) (i30 : PySem.W.isFn K (.ref f30) = true) (l30 : K.lookup f30 = some ⟨oc30, od30, .func (PySem.W.fnOf "loops" "Program.loops" (defArgs s_Program_loops) (defBody s_Program_loops) (defScope s_Program_loops) .none kV30 dc30 pm30 an30 cd30 ct30), sl30⟩) (c30 : PySem.W.codeIn K cd30 "Program.loops" = true) (k30 : PySem.W.keepIn K (.ref f30) = true)
    {f31 : Addr} {od31 an31 : Option Addr} {sl31 : Array (Option Value)} {oc31 kV31 dc31 pm31 cd31 ct31 : Value} {pt : Addr} {rt : List Value} (pp : PySem.W.findIn K (.ref C) "tops" = some (some (.ref pt))) (ps : PySem.W.specialIn K (.ref pt) "__get__" = some (some (.builtin "property.__get__"))) (pk : PySem.W.takesIn K (.ref pt) = some true) (pr : PySem.W.recIn K pt "property" = some (.ref f31 :: rt)) (l31 : K.lookup f31 = some ⟨oc31, od31, .func (PySem.W.fnOf "tops" "Program.tops" (defArgs s_Program_tops) (defBody s_Program_tops) (defScope s_Program_tops) .none kV31 dc31 pm31 an31 cd31 ct31), sl31⟩) (c31 : PySem.W.codeIn K cd31 "Program.tops" = true) (k31 : PySem.W.keepIn K (.ref f31) = true)
    (pg : PySem.W.plainGet K C Str.empty = true) (hd : PySem.W.hasDictIn K C = true) (po : PySem.W.plainOver K C = true) (sa : PySem.W.findIn K (.ref C) "__setattr__" = some (some (.builtin "object.__setattr__"))) (mk : PySem.W.makesIn K C = true) (kc : PySem.W.keepIn K (.ref C) = true) (n1 : PySem.W.findIn K (.ref C) "_tops" = some none) (n2 : PySem.W.findIn K (.ref C) "rows" = some none)
    (xB : PySem.W.excIn K CB [.type "ValueError", .type "Exception", .type "BaseException", .type "object"] "ValueError.__new__" = true) (kB : PySem.W.keepIn K (.ref CB) = true) (bB : PySem.W.subIn K (.ref CB) (.type "BaseException") = some true) (tB : PySem.W.typeIn K (.ref CB) = some (.type "type")) (dB : PySem.W.hasDictIn K CB = true) (sB : PySem.W.subIn K (.ref CB) (.ref CB) = some true)
    (e1 : PySem.W.findIn K (.ref CB) "__getattribute__" = some (some (.builtin "BaseException.__getattribute__"))) (e2 : PySem.W.findIn K (.ref CB) "__getattr__" = some none) (e3 : PySem.W.findIn K (.ref CB) "__class__" = some (some (.builtin "object.__class__"))) (e4 : PySem.W.specialIn K (.builtin "object.__class__") "__get__" = some (some (.builtin "getset_descriptor.__get__"))) (e5 : PySem.W.takesIn K (.builtin "object.__class__") = some true) (e6 : PySem.W.mroIn K CB (.type "object") = some true)
    (zV : PySem.W.nsIn K mainGlobals "ValueError" = some none) (q1 : PySem.W.kitOne K (.ref CB) (.ref BF) = some false) (q2 : PySem.W.kitOne K (.ref CB) (.ref NL) = some false) (q3 : PySem.W.kitOne K (.ref CB) (.ref LE) = some true) (q4 : PySem.W.kitOne K (.ref CB) (.type "ValueError") = some true)
    {t_MOST_BOXES : Tok} (n_MOST_BOXES : PySem.W.nsIn K mainGlobals "MOST_BOXES" = some (some (.int 3 t_MOST_BOXES)))
    {t_HIGHEST_TOP : Tok} (n_HIGHEST_TOP : PySem.W.nsIn K mainGlobals "HIGHEST_TOP" = some (some (.int 9 t_HIGHEST_TOP)))
    {t_MOST_ROWS : Tok} (n_MOST_ROWS : PySem.W.nsIn K mainGlobals "MOST_ROWS" = some (some (.int 12 t_MOST_ROWS)))
    {t_MOST_WITHIN : Tok} (n_MOST_WITHIN : PySem.W.nsIn K mainGlobals "MOST_WITHIN" = some (some (.int 3 t_MOST_WITHIN)))
    {t_MOST_KEPT : Tok} (n_MOST_KEPT : PySem.W.nsIn K mainGlobals "MOST_KEPT" = some (some (.int 3 t_MOST_KEPT)))
    {t_HIGHEST_NUMBER : Tok} (n_HIGHEST_NUMBER : PySem.W.nsIn K mainGlobals "HIGHEST_NUMBER" = some (some (.int 9 t_HIGHEST_NUMBER)))
    {t_HIGHEST_LAST : Tok} (n_HIGHEST_LAST : PySem.W.nsIn K mainGlobals "HIGHEST_LAST" = some (some (.int 99 t_HIGHEST_LAST)))
    (z_len : PySem.W.nsIn K mainGlobals "len" = some none) (z_range : PySem.W.nsIn K mainGlobals "range" = some none) (z_zip : PySem.W.nsIn K mainGlobals "zip" = some none) (z_enumerate : PySem.W.nsIn K mainGlobals "enumerate" = some none) (z_sum : PySem.W.nsIn K mainGlobals "sum" = some none) (z_all : PySem.W.nsIn K mainGlobals "all" = some none) (z_tuple : PySem.W.nsIn K mainGlobals "tuple" = some none) (z_list : PySem.W.nsIn K mainGlobals "list" = some none) (z_isinstance : PySem.W.nsIn K mainGlobals "isinstance" = some none) (z_int : PySem.W.nsIn K mainGlobals "int" = some none) (z_bool : PySem.W.nsIn K mainGlobals "bool" = some none) (z_str : PySem.W.nsIn K mainGlobals "str" = some none) (z_type : PySem.W.nsIn K mainGlobals "type" = some none) :
    ∃ fd : FuncData, (∀ (s : Shared) (v : Value), BindsTo s fd ⟨[v], []⟩ [("_law_script", v)]) ∧ ∀ base : Heap, K.In base → base.Ns mainGlobals mg → FnOk l.prog w K mg base CX0 13 fa fd ["_law_script"] (spLaw K) := by
  have e := hfa.symm.trans (PySem.W.mg_of X G a27)
  cases e
  have F1 := fun_mk (st := s_is_filling) l1 c1 k1
  have b1 := F1.binds (ps := ["program", "filling"]) fun _ _ _ _ _ _ us hl => match us, hl with | [_, _], _ => rfl
  have m1 := PySem.W.mg_of X G a1
  have F2 := fun_mk (st := s_is_within) l2 c2 k2
  have b2 := F2.binds (ps := ["program", "filling"]) fun _ _ _ _ _ _ us hl => match us, hl with | [_, _], _ => rfl
  have m2 := PySem.W.mg_of X G a2
  have F3 := fun_mk (st := s_rows_within) l3 c3 k3
  have b3 := F3.binds (ps := ["row"]) fun _ _ _ _ _ _ us hl => match us, hl with | [_], _ => rfl
  have m3 := PySem.W.mg_of X G a3
  have F4 := fun_mk (st := s__loops_among) l4 c4 k4
  have b4 := F4.binds (ps := ["rows", "ahead"]) fun _ _ _ _ _ _ us hl => match us, hl with | [_, _], _ => rfl
  have m4 := PySem.W.mg_of X G a4
  have F5 := fun_mk (st := s__check_tops) l5 c5 k5
  have b5 := F5.binds (ps := ["tops"]) fun _ _ _ _ _ _ us hl => match us, hl with | [_], _ => rfl
  have m5 := PySem.W.mg_of X G a5
  have F6 := fun_mk (st := s__check_rows) l6 c6 k6
  have b6 := F6.binds (ps := ["rows", "many", "depth"]) fun _ _ _ _ _ _ us hl => match us, hl with | [_, _, _], _ => rfl
  have m6 := PySem.W.mg_of X G a6
  have F7 := fun_mk (st := s__check_count) l7 c7 k7
  have b7 := F7.binds (ps := ["count"]) fun _ _ _ _ _ _ us hl => match us, hl with | [_], _ => rfl
  have m7 := PySem.W.mg_of X G a7
  have F8 := fun_mk (st := s__check_row) l8 c8 k8
  have b8 := F8.binds (ps := ["row", "many"]) fun _ _ _ _ _ _ us hl => match us, hl with | [_, _], _ => rfl
  have m8 := PySem.W.mg_of X G a8
  have F9 := fun_mk (st := s__are_kept_words) l9 c9 k9
  have b9 := F9.binds (ps := ["words", "many"]) fun _ _ _ _ _ _ us hl => match us, hl with | [_, _], _ => rfl
  have m9 := PySem.W.mg_of X G a9
  have F10 := fun_mk (st := s__is_sum) l10 c10 k10
  have b10 := F10.binds (ps := ["one", "many"]) fun _ _ _ _ _ _ us hl => match us, hl with | [_, _], _ => rfl
  have m10 := PySem.W.mg_of X G a10
  have F11 := fun_mk (st := s__is_from_to) l11 c11 k11
  have b11 := F11.binds (ps := ["number", "least", "most"]) fun _ _ _ _ _ _ us hl => match us, hl with | [_, _, _], _ => rfl
  have m11 := PySem.W.mg_of X G a11
  have F12 := fun_mk (st := s__law_at) l12 c12 k12
  have b12 := F12.binds (ps := ["_law_script", "_law_k"]) fun _ _ _ _ _ _ us hl => match us, hl with | [_, _], _ => rfl
  have m12 := PySem.W.mg_of X G a12
  have F13 := fun_mk (st := s__law_tops) l13 c13 k13
  have b13 := F13.binds (ps := ["_law_script"]) fun _ _ _ _ _ _ us hl => match us, hl with | [_], _ => rfl
  have m13 := PySem.W.mg_of X G a13
  have F14 := fun_mk (st := s__law_unit) l14 c14 k14
  have b14 := F14.binds (ps := ["_law_many", "_law_box", "_law_number", "_law_more"]) fun _ _ _ _ _ _ us hl => match us, hl with | [_, _, _, _], _ => rfl
  have m14 := PySem.W.mg_of X G a14
  have F15 := fun_mk (st := s__law_word) l15 c15 k15
  have b15 := F15.binds (ps := ["_law_cell", "_law_many"]) fun _ _ _ _ _ _ us hl => match us, hl with | [_, _], _ => rfl
  have m15 := PySem.W.mg_of X G a15
  have F16 := fun_mk (st := s__law_into) l16 c16 k16
  have b16 := F16.binds (ps := ["_law_cell", "_law_many", "_law_box"]) fun _ _ _ _ _ _ us hl => match us, hl with | [_, _, _], _ => rfl
  have m16 := PySem.W.mg_of X G a16
  have F17 := fun_mk (st := s__law_row) l17 c17 k17
  have b17 := F17.binds (ps := ["_law_state", "_law_deep"]) fun _ _ _ _ _ _ us hl => match us, hl with | [_, _], _ => rfl
  have m17 := PySem.W.mg_of X G a17
  have F18 := fun_mk (st := s__law_rows) l18 c18 k18
  have b18 := F18.binds (ps := ["_law_state", "_law_deep", "_law_most"]) fun _ _ _ _ _ _ us hl => match us, hl with | [_, _, _], _ => rfl
  have m18 := PySem.W.mg_of X G a18
  have F19 := fun_mk (st := s__law_program) l19 c19 k19
  have b19 := F19.binds (ps := ["_law_script", "_law_most"]) fun _ _ _ _ _ _ us hl => match us, hl with | [_, _], _ => rfl
  have m19 := PySem.W.mg_of X G a19
  have F20 := fun_mk (st := s__law_places) l20 c20 k20
  have b20 := F20.binds (ps := ["_law_rows_here", "_law_ahead"]) fun _ _ _ _ _ _ us hl => match us, hl with | [_, _], _ => rfl
  have m20 := PySem.W.mg_of X G a20
  have F21 := fun_mk (st := s__law_changed) l21 c21 k21
  have b21 := F21.binds (ps := ["_law_rows_here", "_law_place", "_law_row_here"]) fun _ _ _ _ _ _ us hl => match us, hl with | [_, _, _], _ => rfl
  have m21 := PySem.W.mg_of X G a21
  have F22 := fun_mk (st := s__law_bad_sum) l22 c22 k22
  have b22 := F22.binds (ps := ["_law_cell", "_law_one"]) fun _ _ _ _ _ _ us hl => match us, hl with | [_, _], _ => rfl
  have m22 := PySem.W.mg_of X G a22
  have F23 := fun_mk (st := s__law_bad_row) l23 c23 k23
  have b23 := F23.binds (ps := ["_law_cell", "_law_row_here", "_law_many"]) fun _ _ _ _ _ _ us hl => match us, hl with | [_, _, _], _ => rfl
  have m23 := PySem.W.mg_of X G a23
  have F24 := fun_mk (st := s__law_bad) l24 c24 k24
  have b24 := F24.binds (ps := ["_law_cell", "_law_tops_here", "_law_rows_here"]) fun _ _ _ _ _ _ us hl => match us, hl with | [_, _, _], _ => rfl
  have m24 := PySem.W.mg_of X G a24
  have F25 := fun_mk (st := s__law_refused) l25 c25 k25
  have b25 := F25.binds (ps := ["_law_tops_here", "_law_rows_here"]) fun _ _ _ _ _ _ us hl => match us, hl with | [_, _], _ => rfl
  have m25 := PySem.W.mg_of X G a25
  have F26 := fun_mk (st := s__law_right) l26 c26 k26
  have b26 := F26.binds (ps := ["_law_program_here", "_law_tops_here", "_law_rows_here", "_law_kept"]) fun _ _ _ _ _ _ us hl => match us, hl with | [_, _, _, _], _ => rfl
  have m26 := PySem.W.mg_of X G a26
  have F27 := fun_mk (st := s_law) l27 c27 k27
  have m27 := PySem.W.mg_of X G a27
  have F28 := fun_mk (st := s_Program___init__) l28 c28 k28
  have b28 := F28.binds (ps := ["self", "tops", "rows"]) fun _ _ _ _ _ _ us hl => match us, hl with | [_, _, _], _ => rfl
  have F29 := fun_mk (st := s_Program_row) l29 c29 k29
  have b29 := F29.binds (ps := ["self", "place"]) fun _ _ _ _ _ _ us hl => match us, hl with | [_, _], _ => rfl
  have F30 := fun_mk (st := s_Program_loops) l30 c30 k30
  have b30 := F30.binds (ps := ["self"]) fun _ _ _ _ _ _ us hl => match us, hl with | [_], _ => rfl
  have F31 := fun_mk (st := s_Program_tops) l31 c31 k31
  have b31 := F31.binds (ps := ["self"]) fun _ _ _ _ _ _ us hl => match us, hl with | [_], _ => rfl
  have B : Bl mg := ⟨PySem.W.mg_none_of X G z_len, PySem.W.mg_none_of X G z_range, PySem.W.mg_none_of X G z_zip, PySem.W.mg_none_of X G z_enumerate, PySem.W.mg_none_of X G z_sum, PySem.W.mg_none_of X G z_all, PySem.W.mg_none_of X G z_tuple, PySem.W.mg_none_of X G z_list, PySem.W.mg_none_of X G z_isinstance, PySem.W.mg_none_of X G z_int, PySem.W.mg_none_of X G z_bool, PySem.W.mg_none_of X G z_str, PySem.W.mg_none_of X G z_type⟩
  have T : Cs mg := ⟨⟨_, PySem.W.mg_of X G n_MOST_BOXES, ⟨_, rfl⟩⟩, ⟨_, PySem.W.mg_of X G n_HIGHEST_TOP, ⟨_, rfl⟩⟩, ⟨_, PySem.W.mg_of X G n_MOST_ROWS, ⟨_, rfl⟩⟩, ⟨_, PySem.W.mg_of X G n_MOST_WITHIN, ⟨_, rfl⟩⟩, ⟨_, PySem.W.mg_of X G n_MOST_KEPT, ⟨_, rfl⟩⟩, ⟨_, PySem.W.mg_of X G n_HIGHEST_NUMBER, ⟨_, rfl⟩⟩, ⟨_, PySem.W.mg_of X G n_HIGHEST_LAST, ⟨_, rfl⟩⟩⟩
  have mC := PySem.W.mg_of X G aC
  have XB : ExF K mg "BadProgram" CB := ⟨xB, PySem.W.mg_of X G aB, kB, bB, tB⟩
  have EF : ErrF K mg CB BF NL LE := ⟨⟨e1, e2, bB, dB, e3, e4, e5, e6⟩, PySem.W.exm_ref bB dB tB sB, PySem.W.mg_of X G aF, PySem.W.mg_of X G aN, PySem.W.mg_of X G aL, PySem.W.mg_none_of X G zV, q1, q2, q3, q4⟩
  have cl : Cls K C := ⟨pg, hd, po, sa⟩
  have cp : ClsP K C := ⟨cl, n1, n2⟩
  refine ⟨PySem.W.fnOf "law" "law" (defArgs s_law) (defBody s_law) (defScope s_law) .none kV27 dc27 pm27 an27 cd27 ct27, fun s v => .of_eq rfl, fun base _ _ => ?_⟩
  have g__is_from_to := ok__is_from_to (P := l.prog) (w := w) (mg := mg) (base := base) (k := 0) F11 B
  have g__is_sum := ok__is_sum (P := l.prog) (w := w) (mg := mg) (base := base) (k := 1) F10 B T (calMk g__is_from_to m11 k11 b11 (by decide) : C8.Cal l.prog w K mg base 1 _ _ [])
  have g__are_kept_words := ok__are_kept_words (P := l.prog) (w := w) (mg := mg) (base := base) (k := 2) F9 B T (calMk g__is_sum m10 k10 b10 (by decide) : C8.Cal l.prog w K mg base 2 _ _ [])
  have g_rows_within := ok_rows_within (P := l.prog) (w := w) (mg := mg) (base := base) (k := 0) F3 
  have g__check_count := ok__check_count (P := l.prog) (w := w) (mg := mg) (base := base) (k := 0) F7 B T XB
  have g__check_row := ok__check_row (P := l.prog) (w := w) (mg := mg) (base := base) (k := 3) F8 B T XB (calMk g__is_from_to m11 k11 b11 (by decide) : C8.Cal l.prog w K mg base 3 _ _ []) (calMk g__is_sum m10 k10 b10 (by decide) : C8.Cal l.prog w K mg base 3 _ _ []) (calMk g__are_kept_words m9 k9 b9 (by decide) : C8.Cal l.prog w K mg base 3 _ _ [])
  have g__check_rows0 : FnOk l.prog w K mg base (L2.CX l.prog w) 4 f6 _ ["rows", "many", "depth"] (spRows K CB 0) := vac (fd := PySem.W.fnOf "_check_rows" "_check_rows" (defArgs s__check_rows) (defBody s__check_rows) (defScope s__check_rows) .none kV6 dc6 pm6 an6 cd6 ct6) (by rintro vs H Q E ⟨v, d, many, depth, _, _, _, h1, h2, _⟩; omega)
  have g__check_rows1 := ok__check_rows (P := l.prog) (w := w) (mg := mg) (base := base) (k := 4) F6 B T XB (calXMk g__check_count m7 k7 b7 (by decide) : CalX l.prog w K mg base 4 _ _) (calXMk g__check_row m8 k8 b8 (by decide) : CalX l.prog w K mg base 4 _ _) (calMk g_rows_within m3 k3 b3 (by decide) : C8.Cal l.prog w K mg base 4 _ _ []) (calXMk g__check_rows0 m6 k6 b6 (by decide) : CalX l.prog w K mg base 4 _ _)
  have g__check_rows2 := ok__check_rows (P := l.prog) (w := w) (mg := mg) (base := base) (k := 5) F6 B T XB (calXMk g__check_count m7 k7 b7 (by decide) : CalX l.prog w K mg base 5 _ _) (calXMk g__check_row m8 k8 b8 (by decide) : CalX l.prog w K mg base 5 _ _) (calMk g_rows_within m3 k3 b3 (by decide) : C8.Cal l.prog w K mg base 5 _ _ []) (calXMk g__check_rows1 m6 k6 b6 (by decide) : CalX l.prog w K mg base 5 _ _)
  have g__check_rows3 := ok__check_rows (P := l.prog) (w := w) (mg := mg) (base := base) (k := 6) F6 B T XB (calXMk g__check_count m7 k7 b7 (by decide) : CalX l.prog w K mg base 6 _ _) (calXMk g__check_row m8 k8 b8 (by decide) : CalX l.prog w K mg base 6 _ _) (calMk g_rows_within m3 k3 b3 (by decide) : C8.Cal l.prog w K mg base 6 _ _ []) (calXMk g__check_rows2 m6 k6 b6 (by decide) : CalX l.prog w K mg base 6 _ _)
  have g__check_rows4 := ok__check_rows (P := l.prog) (w := w) (mg := mg) (base := base) (k := 7) F6 B T XB (calXMk g__check_count m7 k7 b7 (by decide) : CalX l.prog w K mg base 7 _ _) (calXMk g__check_row m8 k8 b8 (by decide) : CalX l.prog w K mg base 7 _ _) (calMk g_rows_within m3 k3 b3 (by decide) : C8.Cal l.prog w K mg base 7 _ _ []) (calXMk g__check_rows3 m6 k6 b6 (by decide) : CalX l.prog w K mg base 7 _ _)
  have g__check_rows5 := ok__check_rows (P := l.prog) (w := w) (mg := mg) (base := base) (k := 8) F6 B T XB (calXMk g__check_count m7 k7 b7 (by decide) : CalX l.prog w K mg base 8 _ _) (calXMk g__check_row m8 k8 b8 (by decide) : CalX l.prog w K mg base 8 _ _) (calMk g_rows_within m3 k3 b3 (by decide) : C8.Cal l.prog w K mg base 8 _ _ []) (calXMk g__check_rows4 m6 k6 b6 (by decide) : CalX l.prog w K mg base 8 _ _)
  have g__check_tops := ok__check_tops (P := l.prog) (w := w) (mg := mg) (base := base) (k := 1) F5 B T XB (calMk g__is_from_to m11 k11 b11 (by decide) : C8.Cal l.prog w K mg base 1 _ _ [])
  have g_Program___init__ := ok_init (P := l.prog) (w := w) (mg := mg) (base := base) (k := 9) F28 B cp (calXMk g__check_tops m5 k5 b5 (by decide) : CalX l.prog w K mg base 9 _ _) (calXMk g__check_rows5 m6 k6 b6 (by decide) : CalX l.prog w K mg base 9 _ _)
  have qC : ∀ k, 10 ≤ k → CalC l.prog w K mg base k C "Program" (spInit K C CB) := fun k hk => ⟨f28, _, _, ⟨mk, a28, i28, kc⟩, g_Program___init__.mono hk, b28, mC⟩
  have g_Program_tops := ok_tops (P := l.prog) (w := w) (mg := mg) (base := base) (k := 0) F31 B cp
  have qT : ∀ k, 1 ≤ k → CalP l.prog w K mg base k C "tops" (spTopsP K C) := fun k hk => ⟨pt, f31, _, _, ⟨pp, ps, pk, rt, pr⟩, g_Program_tops.mono hk, b31⟩
  have g_is_filling := ok_is_filling (P := l.prog) (w := w) (mg := mg) (base := base) (k := 1) F1 B cl (qT 1 (by decide))
  have g_is_within := ok_is_within (P := l.prog) (w := w) (mg := mg) (base := base) (k := 1) F2 B cl (qT 2 (by decide)) (calMk g_is_filling m1 k1 b1 (by decide) : C8.Cal l.prog w K mg base 3 _ _ [])
  have g__loops_among0 : FnOk l.prog w K mg base CX0 1 f4 _ ["rows", "ahead"] (spLo K 0) := vac (fd := PySem.W.fnOf "_loops_among" "_loops_among" (defArgs s__loops_among) (defBody s__loops_among) (defScope s__loops_among) .none kV4 dc4 pm4 an4 cd4 ct4) (by rintro vs H Q E ⟨many, a, b, xs, rows, ahead, _, _, _, _, _, h1, _⟩; omega)
  have g__loops_among1 := ok__loops_among (P := l.prog) (w := w) (mg := mg) (base := base) (k := 1) F4 B (calMk g_rows_within m3 k3 b3 (by decide) : C8.Cal l.prog w K mg base 1 _ _ []) (calMk g__loops_among0 m4 k4 b4 (by decide) : C8.Cal l.prog w K mg base 1 _ _ [])
  have g__loops_among2 := ok__loops_among (P := l.prog) (w := w) (mg := mg) (base := base) (k := 2) F4 B (calMk g_rows_within m3 k3 b3 (by decide) : C8.Cal l.prog w K mg base 2 _ _ []) (calMk g__loops_among1 m4 k4 b4 (by decide) : C8.Cal l.prog w K mg base 2 _ _ [])
  have g__loops_among3 := ok__loops_among (P := l.prog) (w := w) (mg := mg) (base := base) (k := 3) F4 B (calMk g_rows_within m3 k3 b3 (by decide) : C8.Cal l.prog w K mg base 3 _ _ []) (calMk g__loops_among2 m4 k4 b4 (by decide) : C8.Cal l.prog w K mg base 3 _ _ [])
  have g__loops_among4 := ok__loops_among (P := l.prog) (w := w) (mg := mg) (base := base) (k := 4) F4 B (calMk g_rows_within m3 k3 b3 (by decide) : C8.Cal l.prog w K mg base 4 _ _ []) (calMk g__loops_among3 m4 k4 b4 (by decide) : C8.Cal l.prog w K mg base 4 _ _ [])
  have g_Program_loops := ok_loops (P := l.prog) (w := w) (mg := mg) (base := base) (k := 5) F30 cp (calMk g__loops_among4 m4 k4 b4 (by decide) : C8.Cal l.prog w K mg base 5 _ _ [])
  have qL : ∀ k, 6 ≤ k → CalM l.prog w K mg base k C "loops" (spLoops K C) := fun k hk => ⟨f30, _, _, ⟨a30, i30, k30⟩, g_Program_loops.mono hk, b30⟩
  have g_Program_row := ok_row (P := l.prog) (w := w) (mg := mg) (base := base) (k := 1) F29 B cp (calMk g_rows_within m3 k3 b3 (by decide) : C8.Cal l.prog w K mg base 1 _ _ [])
  have qR : ∀ k, 2 ≤ k → CalM l.prog w K mg base k C "row" (spRowAt K C) := fun k hk => ⟨f29, _, _, ⟨a29, i29, k29⟩, g_Program_row.mono hk, b29⟩
  have g__law_at := ok__law_at (P := l.prog) (w := w) (mg := mg) (base := base) (k := 0) F12 B
  have g__law_tops := ok__law_tops (P := l.prog) (w := w) (mg := mg) (base := base) (k := 1) F13 B (calMk g__law_at m12 k12 b12 (by decide) : C8.Cal l.prog w K mg base 1 _ _ [])
  have g__law_unit := ok__law_unit (P := l.prog) (w := w) (mg := mg) (base := base) (k := 0) F14 B
  have g__law_word := ok__law_word (P := l.prog) (w := w) (mg := mg) (base := base) (k := 1) F15 B (calMk g__law_unit m14 k14 b14 (by decide) : C8.Cal l.prog w K mg base 1 _ _ [])
  have g__law_into := ok__law_into (P := l.prog) (w := w) (mg := mg) (base := base) (k := 2) F16 B (calMk g__law_unit m14 k14 b14 (by decide) : C8.Cal l.prog w K mg base 2 _ _ []) (calMk g__law_word m15 k15 b15 (by decide) : C8.Cal l.prog w K mg base 2 _ _ [])
  have g__law_rows0 : FnOk l.prog w K mg base CX0 3 f18 _ ["_law_state", "_law_deep", "_law_most"] (spGRows K 0) := vac (fd := PySem.W.fnOf "_law_rows" "_law_rows" (defArgs s__law_rows) (defBody s__law_rows) (defScope s__law_rows) .none kV18 dc18 pm18 an18 cd18 ct18) (by rintro vs H Q E ⟨ds, sc, tp, script, tops, p, l, di, most, _, _, h1, _⟩; omega)
  have g__law_row0 := ok__law_row (P := l.prog) (w := w) (mg := mg) (base := base) (k := 3) F17 B (calMk g__law_at m12 k12 b12 (by decide) : C8.Cal l.prog w K mg base 3 _ _ []) (calMk g__law_into m16 k16 b16 (by decide) : C8.Cal l.prog w K mg base 3 _ _ []) (calMk g__law_word m15 k15 b15 (by decide) : C8.Cal l.prog w K mg base 3 _ _ []) (calMk g__law_unit m14 k14 b14 (by decide) : C8.Cal l.prog w K mg base 3 _ _ []) (calMk g__law_rows0 m18 k18 b18 (by decide) : C8.Cal l.prog w K mg base 3 _ _ [])
  have g__law_rows1 := ok__law_rows (P := l.prog) (w := w) (mg := mg) (base := base) (k := 4) F18 B (calMk g__law_row0 m17 k17 b17 (by decide) : C8.Cal l.prog w K mg base 4 _ _ [])
  have g__law_row1 := ok__law_row (P := l.prog) (w := w) (mg := mg) (base := base) (k := 5) F17 B (calMk g__law_at m12 k12 b12 (by decide) : C8.Cal l.prog w K mg base 5 _ _ []) (calMk g__law_into m16 k16 b16 (by decide) : C8.Cal l.prog w K mg base 5 _ _ []) (calMk g__law_word m15 k15 b15 (by decide) : C8.Cal l.prog w K mg base 5 _ _ []) (calMk g__law_unit m14 k14 b14 (by decide) : C8.Cal l.prog w K mg base 5 _ _ []) (calMk g__law_rows1 m18 k18 b18 (by decide) : C8.Cal l.prog w K mg base 5 _ _ [])
  have g__law_rows2 := ok__law_rows (P := l.prog) (w := w) (mg := mg) (base := base) (k := 6) F18 B (calMk g__law_row1 m17 k17 b17 (by decide) : C8.Cal l.prog w K mg base 6 _ _ [])
  have g__law_row2 := ok__law_row (P := l.prog) (w := w) (mg := mg) (base := base) (k := 7) F17 B (calMk g__law_at m12 k12 b12 (by decide) : C8.Cal l.prog w K mg base 7 _ _ []) (calMk g__law_into m16 k16 b16 (by decide) : C8.Cal l.prog w K mg base 7 _ _ []) (calMk g__law_word m15 k15 b15 (by decide) : C8.Cal l.prog w K mg base 7 _ _ []) (calMk g__law_unit m14 k14 b14 (by decide) : C8.Cal l.prog w K mg base 7 _ _ []) (calMk g__law_rows2 m18 k18 b18 (by decide) : C8.Cal l.prog w K mg base 7 _ _ [])
  have g__law_rows3 := ok__law_rows (P := l.prog) (w := w) (mg := mg) (base := base) (k := 8) F18 B (calMk g__law_row2 m17 k17 b17 (by decide) : C8.Cal l.prog w K mg base 8 _ _ [])
  have g__law_row3 := ok__law_row (P := l.prog) (w := w) (mg := mg) (base := base) (k := 9) F17 B (calMk g__law_at m12 k12 b12 (by decide) : C8.Cal l.prog w K mg base 9 _ _ []) (calMk g__law_into m16 k16 b16 (by decide) : C8.Cal l.prog w K mg base 9 _ _ []) (calMk g__law_word m15 k15 b15 (by decide) : C8.Cal l.prog w K mg base 9 _ _ []) (calMk g__law_unit m14 k14 b14 (by decide) : C8.Cal l.prog w K mg base 9 _ _ []) (calMk g__law_rows3 m18 k18 b18 (by decide) : C8.Cal l.prog w K mg base 9 _ _ [])
  have g__law_rows4 := ok__law_rows (P := l.prog) (w := w) (mg := mg) (base := base) (k := 10) F18 B (calMk g__law_row3 m17 k17 b17 (by decide) : C8.Cal l.prog w K mg base 10 _ _ [])
  have g__law_program := ok__law_program (P := l.prog) (w := w) (mg := mg) (base := base) (k := 11) F19 B (calMk g__law_at m12 k12 b12 (by decide) : C8.Cal l.prog w K mg base 11 _ _ []) (calMk g__law_tops m13 k13 b13 (by decide) : C8.Cal l.prog w K mg base 11 _ _ []) (calMk g__law_rows4 m18 k18 b18 (by decide) : C8.Cal l.prog w K mg base 11 _ _ [])
  have g__law_places0 : FnOk l.prog w K mg base CX0 0 f20 _ ["_law_rows_here", "_law_ahead"] (spPl K 0) := vac (fd := PySem.W.fnOf "_law_places" "_law_places" (defArgs s__law_places) (defBody s__law_places) (defScope s__law_places) .none kV20 dc20 pm20 an20 cd20 ct20) (by rintro vs H Q E ⟨many, a, b, xs, rows, ahead, _, _, _, _, _, h1, _⟩; omega)
  have g__law_changed0 : FnOk l.prog w K mg base CX0 0 f21 _ ["_law_rows_here", "_law_place", "_law_row_here"] (spChg K 0) := vac (fd := PySem.W.fnOf "_law_changed" "_law_changed" (defArgs s__law_changed) (defBody s__law_changed) (defScope s__law_changed) .none kV21 dc21 pm21 an21 cd21 ct21) (by rintro vs H Q E ⟨many, a, b, nv, xs, rows, place, d, bd, _, _, _, _, _, _, _, h1, _⟩; omega)
  have g__law_places1 := ok__law_places (P := l.prog) (w := w) (mg := mg) (base := base) (k := 0) F20 B (calMk g__law_places0 m20 k20 b20 (by decide) : C8.Cal l.prog w K mg base 0 _ _ [])
  have g__law_changed1 := ok__law_changed (P := l.prog) (w := w) (mg := mg) (base := base) (k := 0) F21 B (calMk g__law_changed0 m21 k21 b21 (by decide) : C8.Cal l.prog w K mg base 0 _ _ [])
  have g__law_places2 := ok__law_places (P := l.prog) (w := w) (mg := mg) (base := base) (k := 1) F20 B (calMk g__law_places1 m20 k20 b20 (by decide) : C8.Cal l.prog w K mg base 1 _ _ [])
  have g__law_changed2 := ok__law_changed (P := l.prog) (w := w) (mg := mg) (base := base) (k := 1) F21 B (calMk g__law_changed1 m21 k21 b21 (by decide) : C8.Cal l.prog w K mg base 1 _ _ [])
  have g__law_places3 := ok__law_places (P := l.prog) (w := w) (mg := mg) (base := base) (k := 2) F20 B (calMk g__law_places2 m20 k20 b20 (by decide) : C8.Cal l.prog w K mg base 2 _ _ [])
  have g__law_changed3 := ok__law_changed (P := l.prog) (w := w) (mg := mg) (base := base) (k := 2) F21 B (calMk g__law_changed2 m21 k21 b21 (by decide) : C8.Cal l.prog w K mg base 2 _ _ [])
  have g__law_places4 := ok__law_places (P := l.prog) (w := w) (mg := mg) (base := base) (k := 3) F20 B (calMk g__law_places3 m20 k20 b20 (by decide) : C8.Cal l.prog w K mg base 3 _ _ [])
  have g__law_changed4 := ok__law_changed (P := l.prog) (w := w) (mg := mg) (base := base) (k := 3) F21 B (calMk g__law_changed3 m21 k21 b21 (by decide) : C8.Cal l.prog w K mg base 3 _ _ [])
  have g__law_bad_sum := ok__law_bad_sum (P := l.prog) (w := w) (mg := mg) (base := base) (k := 0) F22 B
  have g__law_bad_row := ok__law_bad_row (P := l.prog) (w := w) (mg := mg) (base := base) (k := 1) F23 B (calMk g__law_bad_sum m22 k22 b22 (by decide) : C8.Cal l.prog w K mg base 1 _ _ [])
  have g__law_bad := ok__law_bad (P := l.prog) (w := w) (mg := mg) (base := base) (k := 4) F24 B (calMk g__law_places4 m20 k20 b20 (by decide) : C8.Cal l.prog w K mg base 4 _ _ []) (calMk g__law_changed4 m21 k21 b21 (by decide) : C8.Cal l.prog w K mg base 4 _ _ []) (calMk g__law_bad_row m23 k23 b23 (by decide) : C8.Cal l.prog w K mg base 4 _ _ [])
  have g__law_refused := ok__law_refused (P := l.prog) (w := w) (mg := mg) (base := base) (k := 10) F25 B EF XB (qC 10 (by decide))
  have g__law_right := ok__law_right (P := l.prog) (w := w) (mg := mg) (base := base) (k := 5) F26 B cp cl (qT 5 (by decide)) (qR 6 (by decide)) (qL 6 (by decide)) (calMk g__law_places4 m20 k20 b20 (by decide) : C8.Cal l.prog w K mg base 6 _ _ [])
  exact ok_law (k := 11) F27 B (calMk g__law_program m19 k19 b19 (by decide) : C8.Cal l.prog w K mg base 12 _ _ []) (calMk g__law_at m12 k12 b12 (by decide) : C8.Cal l.prog w K mg base 12 _ _ []) (calMk g__law_bad m24 k24 b24 (by decide) : C8.Cal l.prog w K mg base 12 _ _ []) (calMk g__law_refused m25 k25 b25 (by decide) : C8.Cal l.prog w K mg base 12 _ _ []) (calMk g__law_places4 m20 k20 b20 (by decide) : C8.Cal l.prog w K mg base 12 _ _ []) (calMk (fnWeak g_is_within wi_weak) m2 k2 b2 (by decide) : C8.Cal l.prog w K mg base 12 _ _ []) (calMk g__law_right m26 k26 b26 (by decide) : C8.Cal l.prog w K mg base 12 _ _ []) (qC 11 (by decide))
theorem walk {l : PySem.W.OpenLaw} {q : Program} {loose : List Str} {XP : (Str → Option Value) → Heap → Prop} {YP : World → Heap → Prop} {d : DefRec} {K : Params → PySem.W.Frag} (hn : l.most = some 63) (hdf : d.params.defaults = [])
    (hY : ∀ (w : World) (h : Heap), YP w h → (K w.params).In h)
    (F : ∀ (w : World) (mg : Str → Option Value) (fa : Addr) (h : Heap), (K w.params).In h → h.Ns mainGlobals mg → mg d.name = some (.ref fa) →
      ∃ fd : FuncData, (∀ (s : Shared) (u : Value), BindsTo s fd ⟨[u], []⟩ [("_law_script", u)]) ∧ ∀ base : Heap, (K w.params).In base → base.Ns mainGlobals mg → FnOk l.prog w (K w.params) mg base CX0 13 fa fd ["_law_script"] (spLaw (K w.params))) :
    PySem.W.WalkO q loose XP YP l.row.toRowW d [] (fun f vs => PySem.call f vs) :=
  L2.walk_of (n := 63) (k := 13) (x := "_law_script") (CX := fun _ => CX0) (sp := fun w => spLaw (K w.params)) hn (by decide) hdf ⟨rfl, by decide, by decide⟩ hY F (fun _ _ a ns hl _ hS => ⟨a, ns, rfl, hS, hl, fun _ => rfl⟩) fun _ _ _ _ _ z => z
end LW
open PySem PySem.W PyProof.Rows
set_option maxRecDepth 100000 in
set_option maxHeartbeats 0 in
theorem PySem.Challenge.cw_loopwords_k02_programs_holds : PySem.Challenge.rw_loopwords_k02_programs.Holds := by
  w_on; o_law; k_head; (case hw => w_witness2)
  k_fill
  refine LW.walk (l := PySem.Challenge.rw_loopwords_k02_programs) rfl rfl (fun w h Y => PySem.W.kIn_of Y) ?F
  case F =>
    intro w mg fa h KX G hmg
    refine' LW.all_mk KX G hmg ?aC ?aB ?aF ?aN ?aL ?a1 ?l1 ?c1 ?k1 ?a2 ?l2 ?c2 ?k2 ?a3 ?l3 ?c3 ?k3 ?a4 ?l4 ?c4 ?k4 ?a5 ?l5 ?c5 ?k5 ?a6 ?l6 ?c6 ?k6 ?a7 ?l7 ?c7 ?k7 ?a8 ?l8 ?c8 ?k8 ?a9 ?l9 ?c9 ?k9 ?a10 ?l10 ?c10 ?k10 ?a11 ?l11 ?c11 ?k11 ?a12 ?l12 ?c12 ?k12 ?a13 ?l13 ?c13 ?k13 ?a14 ?l14 ?c14 ?k14 ?a15 ?l15 ?c15 ?k15 ?a16 ?l16 ?c16 ?k16 ?a17 ?l17 ?c17 ?k17 ?a18 ?l18 ?c18 ?k18 ?a19 ?l19 ?c19 ?k19 ?a20 ?l20 ?c20 ?k20 ?a21 ?l21 ?c21 ?k21 ?a22 ?l22 ?c22 ?k22 ?a23 ?l23 ?c23 ?k23 ?a24 ?l24 ?c24 ?k24 ?a25 ?l25 ?c25 ?k25 ?a26 ?l26 ?c26 ?k26 ?a27 ?l27 ?c27 ?k27 ?a28 ?i28 ?l28 ?c28 ?k28 ?a29 ?i29 ?l29 ?c29 ?k29 ?a30 ?i30 ?l30 ?c30 ?k30 ?pp ?ps ?pk ?pr ?l31 ?c31 ?k31 ?pg ?hd ?po ?sa ?mk ?kc ?n1 ?n2 ?xB ?kB ?bB ?tB ?dB ?sB ?e1 ?e2 ?e3 ?e4 ?e5 ?e6 ?zV ?q1 ?q2 ?q3 ?q4 ?n_MOST_BOXES ?n_HIGHEST_TOP ?n_MOST_ROWS ?n_MOST_WITHIN ?n_MOST_KEPT ?n_HIGHEST_NUMBER ?n_HIGHEST_LAST ?z_len ?z_range ?z_zip ?z_enumerate ?z_sum ?z_all ?z_tuple ?z_list ?z_isinstance ?z_int ?z_bool ?z_str ?z_type
    (case aC => k_is)
    (case aB => k_is)
    (case aF => k_is)
    (case aN => k_is)
    (case aL => k_is)
    (case a1 => k_is)
    (case l1 => k_is)
    (case c1 => k_is)
    (case k1 => k_is)
    (case a2 => k_is)
    (case l2 => k_is)
    (case c2 => k_is)
    (case k2 => k_is)
    (case a3 => k_is)
    (case l3 => k_is)
    (case c3 => k_is)
    (case k3 => k_is)
    (case a4 => k_is)
    (case l4 => k_is)
    (case c4 => k_is)
    (case k4 => k_is)
    (case a5 => k_is)
    (case l5 => k_is)
    (case c5 => k_is)
    (case k5 => k_is)
    (case a6 => k_is)
    (case l6 => k_is)
    (case c6 => k_is)
    (case k6 => k_is)
    (case a7 => k_is)
    (case l7 => k_is)
    (case c7 => k_is)
    (case k7 => k_is)
    (case a8 => k_is)
    (case l8 => k_is)
    (case c8 => k_is)
    (case k8 => k_is)
    (case a9 => k_is)
    (case l9 => k_is)
    (case c9 => k_is)
    (case k9 => k_is)
    (case a10 => k_is)
    (case l10 => k_is)
    (case c10 => k_is)
    (case k10 => k_is)
    (case a11 => k_is)
    (case l11 => k_is)
    (case c11 => k_is)
    (case k11 => k_is)
    (case a12 => k_is)
    (case l12 => k_is)
    (case c12 => k_is)
    (case k12 => k_is)
    (case a13 => k_is)
    (case l13 => k_is)
    (case c13 => k_is)
    (case k13 => k_is)
    (case a14 => k_is)
    (case l14 => k_is)
    (case c14 => k_is)
    (case k14 => k_is)
    (case a15 => k_is)
    (case l15 => k_is)
    (case c15 => k_is)
    (case k15 => k_is)
    (case a16 => k_is)
    (case l16 => k_is)
    (case c16 => k_is)
    (case k16 => k_is)
    (case a17 => k_is)
    (case l17 => k_is)
    (case c17 => k_is)
    (case k17 => k_is)
    (case a18 => k_is)
    (case l18 => k_is)
    (case c18 => k_is)
    (case k18 => k_is)
    (case a19 => k_is)
    (case l19 => k_is)
    (case c19 => k_is)
    (case k19 => k_is)
    (case a20 => k_is)
    (case l20 => k_is)
    (case c20 => k_is)
    (case k20 => k_is)
    (case a21 => k_is)
    (case l21 => k_is)
    (case c21 => k_is)
    (case k21 => k_is)
    (case a22 => k_is)
    (case l22 => k_is)
    (case c22 => k_is)
    (case k22 => k_is)
    (case a23 => k_is)
    (case l23 => k_is)
    (case c23 => k_is)
    (case k23 => k_is)
    (case a24 => k_is)
    (case l24 => k_is)
    (case c24 => k_is)
    (case k24 => k_is)
    (case a25 => k_is)
    (case l25 => k_is)
    (case c25 => k_is)
    (case k25 => k_is)
    (case a26 => k_is)
    (case l26 => k_is)
    (case c26 => k_is)
    (case k26 => k_is)
    (case a27 => k_is)
    (case l27 => k_is)
    (case c27 => k_is)
    (case k27 => k_is)
    (case a28 => k_is)
    (case i28 => k_is)
    (case l28 => k_is)
    (case c28 => k_is)
    (case k28 => k_is)
    (case a29 => k_is)
    (case i29 => k_is)
    (case l29 => k_is)
    (case c29 => k_is)
    (case k29 => k_is)
    (case a30 => k_is)
    (case i30 => k_is)
    (case l30 => k_is)
    (case c30 => k_is)
    (case k30 => k_is)
    (case pp => k_is)
    (case ps => k_is)
    (case pk => k_is)
    (case pr => k_is)
    (case l31 => k_is)
    (case c31 => k_is)
    (case k31 => k_is)
    (case pg => k_is)
    (case hd => k_is)
    (case po => k_is)
    (case sa => k_is)
    (case mk => k_is)
    (case kc => k_is)
    (case n1 => k_is)
    (case n2 => k_is)
    (case xB => k_exc)
    (case kB => k_is)
    (case bB => k_is)
    (case tB => k_is)
    (case dB => k_is)
    (case sB => first | k_is | (decide +kernel) | rfl)
    (case e1 => k_is)
    (case e2 => k_is)
    (case e3 => k_is)
    (case e4 => k_is)
    (case e5 => k_is)
    (case e6 => k_is)
    (case zV => k_is)
    (case q1 => first | k_is | (decide +kernel) | rfl)
    (case q2 => first | k_is | (decide +kernel) | rfl)
    (case q3 => first | k_is | (decide +kernel) | rfl)
    (case q4 => first | k_is | (decide +kernel) | rfl)
    (case n_MOST_BOXES => k_is)
    (case n_HIGHEST_TOP => k_is)
    (case n_MOST_ROWS => k_is)
    (case n_MOST_WITHIN => k_is)
    (case n_MOST_KEPT => k_is)
    (case n_HIGHEST_NUMBER => k_is)
    (case n_HIGHEST_LAST => k_is)
    (case z_len => k_is)
    (case z_range => k_is)
    (case z_zip => k_is)
    (case z_enumerate => k_is)
    (case z_sum => k_is)
    (case z_all => k_is)
    (case z_tuple => k_is)
    (case z_list => k_is)
    (case z_isinstance => k_is)
    (case z_int => k_is)
    (case z_bool => k_is)
    (case z_str => k_is)
    (case z_type => k_is)
