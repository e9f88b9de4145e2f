package syntax

import (
	"erasure/api"
	"erasure/catalogue"
	"erasure/lexer"
)

// writer writes the tokens of a declaration or an expression.
type writer struct {
	tokens []api.Token
}

// lines returns the lines of the declarations of one kind.
func lines[T any](declarations []T, write func(w *writer, declaration T)) string {
	var text []byte
	for _, declaration := range declarations {
		var w writer
		write(&w, declaration)
		text = append(text, lexer.Join(w.tokens)...)
		text = append(text, " ;\n"...)
	}
	return string(text)
}

// columnNames returns the names of the columns of each store of a valid catalogue.
func columnNames(c api.Catalogue) map[string][]string {
	names := map[string][]string{}
	for i, t := range c.Tables {
		names[t.Name] = catalogue.Names(c, i)
	}
	for i, v := range c.Views {
		names[v.Name] = catalogue.Names(c, len(c.Tables)+i)
	}
	return names
}

// words writes names and signs.
func (w *writer) words(words ...string) {
	for _, word := range words {
		kind := api.TokenSign
		if lexer.IsName(word) {
			kind = api.TokenName
		}
		w.tokens = append(w.tokens, api.Token{Kind: kind, Text: word})
	}
}

// number writes a number that is not negative.
func (w *writer) number(n int64) {
	w.tokens = append(w.tokens, api.Token{Kind: api.TokenNumber, Int: n})
}

// setting writes a word and a number, unless the number is 0, which is what a setting is if it is left out.
func (w *writer) setting(word string, n int) {
	if n != 0 {
		w.words(word)
		w.number(int64(n))
	}
}

// list writes elements, by their numbers, with commas between them.
func (w *writer) list(size int, element func(number int)) {
	for i := range size {
		if i > 0 {
			w.words(",")
		}
		element(i)
	}
}

func (w *writer) table(t api.Table) {
	w.words("table", t.Name, "(")
	w.list(len(t.Columns), func(i int) { w.column(t, t.Columns[i]) })
	w.words(")")
	if t.Erase == api.EraseRow {
		w.words("erase", "row")
	}
	w.setting("retain", t.Retain)
}

func (w *writer) column(t api.Table, column api.Column) {
	w.words(column.Name, typeWords()[column.Type])
	if column.Namespace != "" {
		w.words("namespace", column.Namespace)
	}
	if column.References != "" {
		w.words("references", column.References)
	}
	if len(column.Owners) > 0 {
		w.words("personal")
		if column.Joint == api.JointAll {
			w.words("all")
		}
		w.words("by")
	}
	for _, owner := range column.Owners {
		w.words(t.Columns[owner].Name)
	}
	w.setting("duty", column.Duty)
}

func (w *writer) view(v api.View, names sides) {
	w.words("view", v.Name, viewWords()[v.Kind])
	if v.Kind == api.ViewUnion {
		w.words(v.Left, v.Right)
		return
	}
	if v.Distinct {
		w.words("distinct")
	}
	w.list(len(v.Items), func(i int) { w.item(v.Items[i], names) })
	if v.Kind == api.ViewGroup {
		w.words("with")
		w.list(len(v.Aggregates), func(i int) { w.aggregate(v.Aggregates[i], names) })
	}
	w.inputs(v, names)
}

func (w *writer) item(item api.Item, names sides) {
	w.words(item.Name, "=")
	w.expression(item.Expr, names)
}

func (w *writer) aggregate(a api.Aggregate, names sides) {
	w.words(a.Name, "=", aggregateWords()[a.Func])
	if a.Func != api.AggCount {
		w.words("(")
		w.expression(a.Expr, names)
		w.words(")")
	}
}

func (w *writer) inputs(v api.View, names sides) {
	w.words("from", v.Left)
	if v.Right != "" {
		w.words("join", v.Right)
	}
	if len(v.On) > 0 {
		w.words("on")
	}
	w.list(len(v.On), func(i int) { w.words(names.left[v.On[i][0]], "=", names.right[v.On[i][1]]) })
	if len(v.Where) > 0 {
		w.words("where")
		w.expression(v.Where, names)
	}
}

func (w *writer) index(x api.Index, columns []string) {
	w.words("index", x.Name, "on", x.Source, ".", columns[x.Column])
}

func (w *writer) sketch(s api.Sketch, columns []string) {
	w.words("sketch", s.Name, sketchWords()[s.Kind])
	w.number(int64(s.Width))
	w.number(int64(s.Depth))
	w.words("on", s.Source, ".", columns[s.Column])
}

func (w *writer) cache(x api.Cache, columns []string) {
	w.words("cache", x.Name, "on", x.Source, ".", columns[x.Column])
	w.setting("for", x.TTL)
}

func (w *writer) release(r api.Release) {
	w.words("release", r.Name, "of", r.Source)
	w.setting("above", r.Threshold)
}

func (w *writer) stream(s api.Stream) {
	w.words("stream", s.Name, "of", s.Table)
}

func (w *writer) backup(x api.Backup) {
	w.words("backup", x.Name, "of")
	w.list(len(x.Tables), func(i int) { w.words(x.Tables[i]) })
	w.setting("keep", x.Keep)
}
