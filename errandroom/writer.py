"""Programs written as texts."""


def worth_text(one):
    if isinstance(one, tuple):
        return "(" + worth_text(one[1]) + one[0] + worth_text(one[2]) + ")"
    return str(one)


def written(program):
    lines = []
    for errand in program:
        lines.append(" ".join(("errand", errand[0]) + errand[1]))
        lines.extend(block_lines(errand[2]))
        lines.append("end")
    return "\n".join(lines)


def block_lines(block):
    lines = []
    for row in block:
        lines.extend(row_lines(row))
    return lines


def row_lines(row):
    word = row[0]
    if word == "set":
        return ["set " + row[1] + " " + worth_text(row[2])]
    if word in ("tell", "give", "fail"):
        return [word + " " + worth_text(row[1])]
    if word == "if":
        return ["if " + worth_text(row[1])] + block_lines(row[2]) + ["else"] + block_lines(row[3]) + ["end"]
    if word == "while":
        return ["while " + worth_text(row[1])] + block_lines(row[2]) + ["end"]
    if word == "try":
        catch = "catch" if row[2] is None else "catch " + row[2]
        return ["try"] + block_lines(row[1]) + [catch] + block_lines(row[3]) + ["end"]
    if word == "do":
        return ["do"] + block_lines(row[1]) + ["undo"] + block_lines(row[2]) + ["end"]
    return ["want " + str(row[1])] + [branch_line(branch) for branch in row[2]] + ["end"]


def branch_line(branch):
    ones = (branch[3],) if branch[1] == "ask" else branch[3]
    words = [branch[1], branch[2]] + [worth_text(one) for one in ones]
    if branch[0] is not None:
        words = [branch[0], "="] + words
    return " ".join(words)
