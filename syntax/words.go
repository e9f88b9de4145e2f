package syntax

import (
	"erasure/api"
)

// operatorWords are the signs and names of the operators. A constant and a column have none.
var operatorWords = [...]string{
	api.OpConst:    "",
	api.OpColumn:   "",
	api.OpNegate:   "-",
	api.OpAdd:      "+",
	api.OpSubtract: "-",
	api.OpMultiply: "*",
	api.OpDivide:   "/",
	api.OpConcat:   "++",
	api.OpLength:   "length",
	api.OpPrefix:   "prefix",
	api.OpEqual:    "=",
	api.OpLess:     "<",
	api.OpNot:      "not",
	api.OpAnd:      "and",
	api.OpOr:       "or",
	api.OpIsNull:   "isnull",
	api.OpCoalesce: "coalesce",
	api.OpIf:       "if",
}

// isFunction reports whether the operands of an operator stand behind its name, in parentheses.
func isFunction(op int) bool {
	switch op {
	case api.OpLength, api.OpPrefix, api.OpIsNull, api.OpCoalesce, api.OpIf:
		return true
	default:
		return false
	}
}

// kindWords are the words with which declarations begin, in the order of their kinds in a catalogue.
func kindWords() []string {
	return []string{
		api.StoreTable:   "table",
		api.StoreView:    "view",
		api.StoreIndex:   "index",
		api.StoreSketch:  "sketch",
		api.StoreCache:   "cache",
		api.StoreRelease: "release",
		api.StoreStream:  "stream",
		api.StoreBackup:  "backup",
	}
}

func typeWords() []string {
	return []string{api.KindInt: "int", api.KindText: "text"}
}

func viewWords() []string {
	return []string{api.ViewSelect: "select", api.ViewGroup: "group", api.ViewUnion: "union"}
}

func aggregateWords() []string {
	return []string{
		api.AggCount:  "count",
		api.AggSum:    "sum",
		api.AggMin:    "min",
		api.AggMax:    "max",
		api.AggMedian: "median",
	}
}

func sketchWords() []string {
	return []string{api.SketchCount: "count", api.SketchBloom: "bloom", api.SketchBottom: "bottom"}
}
